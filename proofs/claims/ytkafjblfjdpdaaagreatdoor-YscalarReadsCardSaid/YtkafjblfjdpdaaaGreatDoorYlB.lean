/-
  WALKS: yscalar.Bare.
  WALKS: yline.sign, blanks, comment, broken, clean.
  WALKS: yline.clean.
-/
import Derived.Test.YtkafjblfjdpdaaaGreatDoorYsI
set_option maxHeartbeats 4000000
set_option maxRecDepth 1000000
namespace Go.Proofs.YtkafjblfjdpdaaaGreatDoor
open Go.RowKit
theorem ybare_run(s:ByteArray):zh9 s.data.toList=((valid s).2&&(decide (0<s.size)&&((!zv4 s&&!zx1 s)&&(decide (byt s (s.size-1)≠32/\byt s (s.size-1)≠58)&&(zf8 s.data.toList&&midR s 0 0))))):=by
 rw[bare_byt];by_cases h:0<s.size
 ·rw[←midI_all h];rfl
 ·rw[decide_eq_false h];simp
theorem dash_is {s:ByteArray} (h:0<s.size):((s.toList==[45])||Lib.hasPrefix s.data.toList [45,32])=zx1 s:=by
 have e:=zg3 s 0 h;rw[List.drop_zero]at e;have hl:s.data.toList.length=s.size:=Array.length_toList;have l0:=zd3 s 0;rw[zj5];unfold zx1;by_cases h1:1<s.size
 ·have e1:=zg3 s (0+1) h1;rw[e1]at e;have t1:decide (s.data.toList=[45])=false:=decide_eq_false (fun hh=>by rw[hh]at hl;simp at hl;omega);have t2:decide (s.size=1)=false:=decide_eq_false (by omega);rw[t1,t2,Bool.false_or,Bool.false_or,e];unfold Lib.hasPrefix;have a1:((45:UInt8)==UInt8.ofNat (byt s 0))=decide (byt s 0=45):=by
   rw[Bool.eq_iff_iff,beq_iff_eq,decide_eq_true_eq,eq_comm];exact zd5 (m:=45) l0 (by omega)
  have a2:((32:UInt8)==UInt8.ofNat (byt s (0+1)))=decide (byt s 1=32):=by
   rw[Bool.eq_iff_iff,beq_iff_eq,decide_eq_true_eq,eq_comm];exact zd5 (m:=32) (zd3 s _) (by omega)
  simp only[List.isPrefixOf,a1,a2,Bool.and_true]
 ·have e1:=zj3 s (0+1) (by omega);rw[e1]at e;have t2:decide (s.size=1)=true:=decide_eq_true (by omega);rw[t2,Bool.true_or,Bool.and_true,e];unfold Lib.hasPrefix;simp only[List.isPrefixOf,Bool.and_false,Bool.or_false];rw[decide_eq_decide];constructor
  ·intro hh;exact(zd5 (m:=45) l0 (by omega)).1 (List.cons.inj hh).1
  ·intro hh;rw[hh];rfl
theorem suff_is {s:ByteArray} (h:0<s.size):Lib.hasSuffix s.data.toList [58]=decide (byt s (s.size-1)=58):=by
 have hl:s.data.toList.length=s.size:=Array.length_toList;have hd:=zg3 s (s.size-1) (by omega);rw[show s.size-1+1=s.size by omega,zj3 s s.size (by omega)]at hd;have ht:=List.take_append_drop (s.size-1) s.data.toList;rw[hd]at ht;unfold Lib.hasSuffix;rw[←ht,Bool.eq_iff_iff,List.isSuffixOf_iff_suffix,decide_eq_true_eq];constructor
 ·intro hh;have h2:=List.suffix_iff_eq_drop.1 hh;rw[List.length_append,List.length_cons,List.length_nil,List.length_cons,List.length_nil,Nat.add_sub_cancel,List.drop_left]at h2;exact((zd5 (n:=byt s (s.size-1)) (m:=58) (zd3 s _) (by omega)).1 (List.cons.inj h2).1.symm)
 ·intro hh;rw[hh];exact List.suffix_append _ _
abbrev setSign:ByteArray:=⟨#[63,58,44,91,93,123,125,35,38,42,33,124,62,39,34,37,64,96,32]⟩
def signN(n:Nat):Bool:=signsL.contains (UInt8.ofNat n)
theorem setSign_is:zJ6 setSign signN:=by unfold zJ6;decide+kernel
theorem zp5(s:ByteArray)(w:World)(hT:tabs w)(hs:s.size<=17592186044416):
 Calls Tryz.prog 15 #[.string s] w fun e w'=>e= .returned (.bool (zh9 s.data.toList))/\Below w.heap.size w w':=by
 have HB:=hq (ybare_run s);have HVA:=hq (zs3 s w hT (by unfold maxLen;omega));generalize zh9 s.data.toList=V at *;clear hT;have hmx:s.size<=maxLen:=by unfold maxLen;omega
 have E0:=hq (zj5 s []);by_cases h0:0<s.size
 ·have e0:(s.toList==[])=false:=by
   rw[E0.o];exact decide_eq_false (fun h=>by
    have hl:s.data.toList.length=s.size:=Array.length_toList;rw[h]at hl;simp at hl;omega)
  have y0:((s[0]'h0).toNat:Int)=(byt s 0:Int):=by rw[zb6 s 0 h0]
  have yn:((s[s.size-1]'(by omega)).toNat:Int)=(byt s (s.size-1):Int):=by rw[zb6 s _ (by omega)]
  have HD:=hq (dash_is h0);have HSU:=hq (suff_is h0);obtain⟨I,hI,hI1,hI2⟩:=zA9 setSign signN setSign_is (byt s 0) (zd3 s 0);have HI:=hq hI;have HP:=hq (fun W=>zJ9 s W hmx);have HHP:Hq (∀W,Calls Tryz.prog 38 #[.string s,.string ⟨#[45,32]⟩] W fun e w'=>e= .returned (.bool (Lib.hasPrefix s.data.toList [45,32]))/\w'=W):=hq (fun W=>Tryz.strings_HasPrefix s ⟨#[45,32]⟩ W);have HHS:Hq (∀W,Calls Tryz.prog 39 #[.string s,.string ⟨#[58]⟩] W fun e w'=>e= .returned (.bool (Lib.hasSuffix s.data.toList [58]))/\w'=W):=hq (fun W=>Tryz.strings_HasSuffix s ⟨#[58]⟩ W (by omega));generalize Lib.hasPrefix s.data.toList [45,32]=P at *;generalize Lib.hasSuffix s.data.toList [58]=Sx at *;clear hI hmx E0;rw[decide_eq_true h0,Bool.true_and]at HB;go_enter Tryz.func15,Tryz.ntmps15
  go_wp2_with fail
  refine HVA.o.mono ?_;rintro e w1 ⟨rfl,hb1⟩;clear HVA;have HBW1:=hq hb1;clear hb1;cases hvv:(valid s).2 with
  |false=>
   have HN:Hq (V=false):=hq (by rw[HB.o,hvv];rfl);clear HB hvv;go_wp2_with fail
   go_ret
   exact⟨by rw[HN.o];rfl,HBW1.o⟩
  |true=>
   have HB1:=HB.o;rw[hvv,Bool.true_and]at HB1;have HB2:=hq HB1;clear HB HB1 hvv;have hI': ∀W,Calls Tryz.prog 37 #[.string setSign,.int .u8 (byt s 0:Int)] W fun e w'=>e= .returned (.int .i64 I)/\W=w':=HI.o
   cases hsg:signN (byt s 0) with
   |true=>
    have i0:=hI1 hsg;have HN:Hq (V=false):=hq (by rw[HB2.o,show zv4 s=true from hsg];rfl);clear HB2 hsg hI1 hI2;go_wp2_with fail
    refine(HI.o _).mono ?_;rintro e w2 ⟨rfl,rfl⟩;clear HI;go_wp2_with fail
    go_ret
    exact⟨by rw[HN.o];rfl,HBW1.o⟩
   |false=>
    have i0:=hI2 hsg;have HB3:Hq (V=(!zx1 s&&(decide (byt s (s.size-1)≠32/\byt s (s.size-1)≠58)&&(zf8 s.data.toList&&midR s 0 0)))):=hq (by rw[HB2.o,show zv4 s=false from hsg];rfl);clear HB2 hsg hI1 hI2;have em:(s.size:Int)-1=((s.size-1:Nat):Int):=by omega
    by_cases h32:byt s (s.size-1)=32
    ·have HN:Hq (V=false):=hq (by rw[HB3.o,decide_eq_false (fun h=>h.1 h32)];simp);have e2:((byt s (s.size-1):Int)==32)=true:=by rw[h32];rfl
     clear HB3 h32;go_wp2_with fail
     refine(HI.o _).mono ?_;rintro e w2 ⟨rfl,rfl⟩;clear HI;go_wp2_with fail
     go_ret
     exact⟨by rw[HN.o];rfl,HBW1.o⟩
    ·have e2:((byt s (s.size-1):Int)==32)=false:=beq_eq_false_iff_ne.2 (by omega);have HB4:Hq (V=(!zx1 s&&(!Sx&&(zf8 s.data.toList&&midR s 0 0)))):=hq (by
      rw[HB3.o,HSU.o]
      congr 2
      by_cases h58:byt s (s.size-1)=58
      ·rw[decide_eq_false (fun h=>h.2 h58),decide_eq_true h58];rfl
      ·rw[decide_eq_true ⟨h32,h58⟩,decide_eq_false h58];rfl)
     clear HB3 HSU h32;cases hb1:(s.toList==[45]) with
     |true=>
      have HN:Hq (V=false):=hq (by rw[HB4.o,←HD.o,hb1];rfl);clear HB4 HD;go_wp2_with fail
      refine(HI.o _).mono ?_;rintro e w2 ⟨rfl,rfl⟩;clear HI;go_wp2_with fail
      go_ret
      exact⟨by rw[HN.o];rfl,HBW1.o⟩
     |false=>
      have HD2:Hq (P=zx1 s):=hq (by have:=HD.o;rw[hb1]at this;exact this);clear HD;cases P with
      |true=>
       have HN:Hq (V=false):=hq (by rw[HB4.o,←HD2.o];rfl);clear HB4 HD2;go_wp2_with fail
       refine(HI.o _).mono ?_;rintro e w2 ⟨rfl,rfl⟩;clear HI;go_wp2_with fail
       refine(HHP.o _).mono ?_;rintro e w2 ⟨rfl,rfl⟩;go_wp2_with fail
       go_ret
       exact⟨by rw[HN.o];rfl,HBW1.o⟩
      |false=>
       have HB5:Hq (V=(!Sx&&(zf8 s.data.toList&&midR s 0 0))):=hq (by rw[HB4.o,←HD2.o];rfl);clear HB4 HD2;cases Sx with
       |true=>
        have HN:Hq (V=false):=hq (by rw[HB5.o];rfl);clear HB5;go_wp2_with fail
        refine(HI.o _).mono ?_;rintro e w2 ⟨rfl,rfl⟩;clear HI;go_wp2_with fail
        refine(HHP.o _).mono ?_;rintro e w2 ⟨rfl,rfl⟩;go_wp2_with fail
        refine(HHS.o _).mono ?_;rintro e w2 ⟨rfl,rfl⟩;go_wp2_with fail
        go_ret
        exact⟨by rw[HN.o];rfl,HBW1.o⟩
       |false=>
        have HB6:Hq (V=(zf8 s.data.toList&&midR s 0 0)):=hq (by rw[HB5.o];rfl);clear HB5;generalize zf8 s.data.toList=PL at *;go_wp2_with fail
        refine(HI.o _).mono ?_;rintro e w2 ⟨rfl,rfl⟩;clear HI;go_wp2_with fail
        refine(HHP.o _).mono ?_;rintro e w2 ⟨rfl,rfl⟩;go_wp2_with fail
        refine(HHS.o _).mono ?_;rintro e w2 ⟨rfl,rfl⟩;go_wp2_with fail
        refine(HP.o _).mono ?_;rintro e w3 ⟨rfl,hb3⟩;have hb4:=za HBW1.o hb3;clear hb3 HP HHS HHP;cases PL with
        |false=>
         have HN:Hq (V=false):=hq (by rw[HB6.o];rfl);clear HB6;go_wp2_with fail
         go_ret
         exact⟨by rw[HN.o];rfl,hb4⟩
        |true=>
         have HV:Hq (V=midR s 0 0):=hq (by rw[HB6.o];rfl);clear HB6;go_wp2_with fail
         go_loopw [5] (fun h wr=> ∃pos last:Nat,pos<=s.size/\h= .int .i32 (last:Int)/\wr.heap[w3.heap.size]?=some (.stringIter s pos)/\Below w.heap.size w wr/\Hq (V=midR s pos last)) (fun _ wr=>s.size-wr.iterPos w3.heap.size)
         case atStart=>exact⟨0,0,Nat.zero_le _,rfl,World.iter_heap w3 s 0,hb4.alloc hb4.size _,HV⟩
         case round=>
          obtain⟨pos,last,hps,rfl,hit,hb,hv⟩:=hrel;have hbs:=hb4.size;clear HV hb4;by_cases hp:pos<s.size
          ·have hnx: ∀ty,(Instr.next (.pointer (some ⟨w3.heap.size,0,none⟩)) true ty).run Tryz.prog wr=_:=fun ty=>Lib.run_next_any_at wr w3.heap.size s pos ty hit hp
           have hwp:=zi4 s pos;have hwl:=zp8 s pos hp;have hit2:=Lib.iterAt_heap wr w3.heap.size s pos (pos+(Utf8.decode s pos).2) hit;have hb2:=Lib.below_iterAt hb (k:=w3.heap.size) hbs s (pos+(Utf8.decode s pos).2);have k2:=zI3 s pos 32 (by omega);have k3:=zI3 s pos 35 (by omega);have HB2:=hq hb2;have HIT:=hq hit2;have HIT0:=hq hit;have hm1:Hq ((wr.iterAt w3.heap.size s (pos+(Utf8.decode s pos).2)).iterPos w3.heap.size=pos+wd s pos):=hq (by simp only[World.iterPos,HIT.o];rfl);have hm0:Hq (wr.iterPos w3.heap.size=pos):=hq (by simp only[World.iterPos,HIT0.o]);clear hit2 hb2 hit;by_cases l58:last=58
           ·have a1:((last:Int)==58)=true:=by rw[l58];rfl
            have a2:((last:Int)==32)=false:=by rw[l58];rfl
            by_cases c32:byt s pos=32
            ·have a3:((((Utf8.decode s pos).1:Nat):Int)==32)=true:=by rw[k2.2 c32];rfl
             have HN:Hq (V=false):=hq (by rw[hv.o,midR_bad hp (.inl ⟨l58,c32⟩)]);clear hv k2 k3 l58 c32;go_wp2_with fail
             go_ret
             exact⟨by rw[HN.o];rfl,HB2.o⟩
            ·have a3:((((Utf8.decode s pos).1:Nat):Int)==32)=false:=beq_eq_false_iff_ne.2 (by have:=mt k2.1 c32;omega);have HN:Hq (V=midR s (pos+wd s pos) (Utf8.decode s pos).1):=hq (by rw[hv.o,zG9 hp (fun h=>h.elim (fun h=>c32 h.2) (fun h=>by omega))]);clear hv k2 k3 l58 c32;go_wp2_with fail
             go_roundw
             case rel=>exact⟨pos+wd s pos,_,hwl,rfl,HIT.o,HB2.o,HN⟩
             case measure=>rw[hm1.o,hm0.o];omega
           ·have a1:((last:Int)==58)=false:=beq_eq_false_iff_ne.2 (by omega);by_cases l32:last=32
            ·have a2:((last:Int)==32)=true:=by rw[l32];rfl
             by_cases c35:byt s pos=35
             ·have a3:((((Utf8.decode s pos).1:Nat):Int)==35)=true:=by rw[k3.2 c35];rfl
              have HN:Hq (V=false):=hq (by rw[hv.o,midR_bad hp (.inr ⟨l32,c35⟩)]);clear hv k2 k3 l58 l32 c35;go_wp2_with fail
              go_ret
              exact⟨by rw[HN.o];rfl,HB2.o⟩
             ·have a3:((((Utf8.decode s pos).1:Nat):Int)==35)=false:=beq_eq_false_iff_ne.2 (by have:=mt k3.1 c35;omega);have HN:Hq (V=midR s (pos+wd s pos) (Utf8.decode s pos).1):=hq (by rw[hv.o,zG9 hp (fun h=>h.elim (fun h=>by omega) (fun h=>c35 h.2))]);clear hv k2 k3 l58 l32 c35;go_wp2_with fail
              go_roundw
              case rel=>exact⟨pos+wd s pos,_,hwl,rfl,HIT.o,HB2.o,HN⟩
              case measure=>rw[hm1.o,hm0.o];omega
            ·have a2:((last:Int)==32)=false:=beq_eq_false_iff_ne.2 (by omega);have HN:Hq (V=midR s (pos+wd s pos) (Utf8.decode s pos).1):=hq (by rw[hv.o,zG9 hp (fun h=>h.elim (fun h=>by omega) (fun h=>by omega))]);clear hv k2 k3 l58 l32;go_wp2_with fail
             go_roundw
             case rel=>exact⟨pos+wd s pos,_,hwl,rfl,HIT.o,HB2.o,HN⟩
             case measure=>rw[hm1.o,hm0.o];omega
          ·have hnx: ∀ty,(Instr.next (.pointer (some ⟨w3.heap.size,0,none⟩)) true ty).run Tryz.prog wr=_:=fun ty=>Lib.run_next_end_at wr w3.heap.size s pos ty hit hp
           have HN:Hq (V=true):=hq (by rw[hv.o,midR_end hp]);clear hv;go_wp2_with fail
           go_ret
           exact⟨by rw[HN.o];rfl,hb⟩
 ·have e0:(s.toList==[])=true:=by
   rw[E0.o];have:=zj3 s 0 h0;rw[List.drop_zero]at this;exact decide_eq_true this
  have HN:Hq (V=false):=hq (by rw[HB.o,decide_eq_false h0];simp);clear HB E0 hmx;go_enter Tryz.func15,Tryz.ntmps15
  go_wp2_with fail
  refine HVA.o.mono ?_;rintro e w1 ⟨rfl,hb1⟩;clear HVA;go_wp2_with fail
  go_ret
  exact⟨by rw[HN.o];rfl,hb1⟩
theorem zc0 {a b:Nat} (h:a=b):((a:Int)==(b:Int))=true:=by rw[h];exact beq_self_eq_true _
theorem zb {a b:Nat} (h:a≠b):((a:Int)==(b:Int))=false:=beq_eq_false_iff_ne.2 (by omega)
theorem ybroken_any(s:ByteArray)(p:Nat)(w:World)(hT:tabs w)(hs:s.size<=1099511627776)(hp:p<s.size):
 Calls Tryz.prog 106 #[.string s,.int .i64 (p:Int),.int .i32 ((Utf8.decode s p).1:Int)] w fun e w'=>e= .returned (.bool (decide (bad s p)))/\Below w.heap.size w w':=by
 have hn:nxt s p=(((Utf8.decode s p).1:Int),((Utf8.decode s p).2:Int)):=by unfold nxt;rw[if_neg (by omega)];rfl
 have HN:=hq hn;have HB:Hq (bad s p↔(Utf8.decode s p).1=65533/\(Utf8.decode s p).2=1):=hq Iff.rfl;have HX:=hq (zP4 s p w hT (by unfold maxLen;omega) (by omega));clear hn hT;generalize hD:decide (bad s p)=D;have HD:=hq hD;clear hD;have hdl:=decode_le s p;generalize (Utf8.decode s p).1=C at *;generalize (Utf8.decode s p).2=K at *;rw[HN.o]at HX;by_cases h1:C=65533
 ·have e1:((C:Int)==65533)=true:=by rw[h1];rfl
  have h2:((K:Int)==1)=D:=by
   rw[←HD.o];by_cases hk:K=1
   ·rw[decide_eq_true (HB.o.2 ⟨h1,hk⟩),hk];rfl
   ·rw[decide_eq_false (fun h=>hk (HB.o.1 h).2)];exact beq_eq_false_iff_ne.2 (by omega)
  clear HB HD h1;go_enter Tryz.func106,Tryz.ntmps106
  go_wp2_with fail
  refine HX.o.mono ?_;rintro e w1 ⟨rfl,hb⟩;clear HX HN;go_wp2_with fail
  go_ret
  exact⟨rfl,hb⟩
 ·have e1:((C:Int)==65533)=false:=beq_eq_false_iff_ne.2 (by omega);have HD2:Hq (D=false):=hq (by rw[←HD.o];exact decide_eq_false (fun h=>h1 (HB.o.1 h).1));clear HB HD h1;go_enter Tryz.func106,Tryz.ntmps106
  go_wp2_with fail
  refine HX.o.mono ?_;rintro e w1 ⟨rfl,hb⟩;clear HX HN;go_wp2_with fail
  go_ret
  exact⟨by rw[HD2.o];rfl,hb⟩
theorem dec_lt(s:ByteArray)(p c:Nat)(hc:c<=128):(Utf8.decode s p).1<c↔byt s p<c:=by
 by_cases h:byt s p<128
 ·rw[zf4 s p h]
 ·have:=zv s p (by omega);omega
end Go.Proofs.YtkafjblfjdpdaaaGreatDoor
