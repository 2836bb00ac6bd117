/-
  WALKS: yline.Single.
-/
import Derived.Test.YtkafjblfjdpdaaaGreatDoorYlB
set_option maxHeartbeats 4000000
set_option maxRecDepth 1000000
namespace Go.Proofs.YtkafjblfjdpdaaaGreatDoor
open Go.RowKit
def sglH(s:ByteArray)(f q:Nat)(half:Bool)(acc:Bs):Bs×Nat×Int:=
 if half=true then(if q<s.size/\byt s q=39 then zk5 s f (q+1) (acc++[39]) else(acc,q,0)) else zk5 s f q acc
theorem sglH_quote {s:ByteArray} {f q:Nat} {acc:Bs} (h:q<s.size)(h1:byt s q=39):sglH s (f+1) q false acc=sglH s f (q+1) true acc:=by
 unfold sglH;rw[if_neg (by decide),if_pos rfl,zk5,if_pos h,if_pos h1]
theorem sglH_pair {s:ByteArray} {f q:Nat} {acc:Bs} (h:q<s.size)(h1:byt s q=39):sglH s f q true acc=sglH s f (q+1) false (acc++[39]):=by
 unfold sglH;rw[if_pos rfl,if_pos ⟨h,h1⟩,if_neg (by decide)]
theorem sglH_over {s:ByteArray} {f q:Nat} {acc:Bs} (h1: ¬(q<s.size/\byt s q=39)):sglH s f q true acc=(acc,q,0):=by
 unfold sglH;rw[if_pos rfl,if_neg h1]
theorem sglH_bad {s:ByteArray} {f q:Nat} {acc:Bs} (h:q<s.size)(h1:byt s q≠39)(h2:bad s q\/byt s q<32):sglH s (f+1) q false acc=([],q,2):=by
 unfold sglH;rw[if_neg (by decide),zs7 h h1 h2]
theorem sglH_rune {s:ByteArray} {f q:Nat} {acc:Bs} (h:q<s.size)(h1:byt s q≠39)(h2: ¬(bad s q\/byt s q<32)):sglH s (f+1) q false acc=sglH s f (q+wd s q) false (acc++zd2 s q):=by
 unfold sglH;rw[if_neg (by decide),zu1 h h1 h2,if_neg (by decide)]
theorem sglH_end {s:ByteArray} {f q:Nat} {acc:Bs} (h: ¬q<s.size):sglH s f q false acc=([],s.size,2):=by
 unfold sglH;rw[if_neg (by decide),zx9 h]
theorem not_bad {s:ByteArray} {q:Nat} (h:byt s q<128): ¬bad s q:=fun hb=>by
 unfold bad at hb;rw[zf4 s q h]at hb;omega
theorem single_any(s:ByteArray)(a:Int)(w:World)(hT:tabs w)(hs:s.size<=1099511627776)(ha:-9223372036854775808<=a/\a<=9223372036854775807):
 Calls Tryz.prog 69 #[.string s,.int .i64 a] w (zt8 (sglM s a) w):=by
 obtain⟨ha1,ha2⟩:=ha;have HS:Hq (sglM s a=if a<0\/(s.size:Int)<a then([],0,2) else if a.toNat=s.size\/byt s a.toNat≠39 then([],a.toNat,2) else zk5 s s.size (a.toNat+1) []):=hq rfl;generalize sglM s a=V at *;by_cases h0:a<0
 ·have HN:=hq (HS.o.trans (if_pos (.inl h0)));clear HS;go_enter Tryz.func69,Tryz.ntmps69
  go_wp2_with fail
  go_ret3
  exact⟨by rw[HN.o];rfl,Below.refl _ _⟩
 ·by_cases h1:(s.size:Int)<a
  ·have HN:=hq (HS.o.trans (if_pos (.inr h1)));clear HS;go_enter Tryz.func69,Tryz.ntmps69
   go_wp2_with fail
   go_ret3
   exact⟨by rw[HN.o];rfl,Below.refl _ _⟩
  ·obtain ⟨k,rfl⟩:=Int.eq_ofNat_of_zero_le (Int.not_lt.1 h0);have HS2:=hq (HS.o.trans (if_neg (fun h=>h.elim h0 h1)));simp only[Int.toNat_natCast]at HS2;have h0': ¬(k:Int)<0:=h0;have h1': ¬(s.size:Int)<(k:Int):=h1;clear HS h0 h1 ha1 ha2;by_cases hk:k=s.size
   ·have HN:=hq (HS2.o.trans (if_pos (.inl hk)));have e1:((k:Int)==(s.size:Int))=true:=zc0 hk;clear HS2 hk;go_enter Tryz.func69,Tryz.ntmps69
    go_wp2_with fail
    go_ret3
    exact⟨by rw[HN.o];rfl,Below.refl _ _⟩
   ·have e1:((k:Int)==(s.size:Int))=false:=zb hk;have hks:k<s.size:=by omega
    have y0:((s[k]'hks).toNat:Int)=(byt s k:Int):=by rw[zb6 s k hks]
    by_cases h39:byt s k≠39
    ·have HN:=hq (HS2.o.trans (if_pos (.inr h39)));have e2:((byt s k:Int) !=39)=true:=bne_iff_ne.2 (by omega);clear HS2 hk h39;generalize byt s k=c0 at *;go_enter Tryz.func69,Tryz.ntmps69
     go_wp2_with fail
     go_ret3
     exact⟨by rw[HN.o];rfl,Below.refl _ _⟩
    ·have HN:Hq (V=sglH s s.size (k+1+0) false []):=hq (HS2.o.trans (if_neg (fun h=>h.elim hk h39)));have e2:((byt s k:Int) !=39)=false:=by rw[show byt s k=39 by omega];rfl
     have HT:=hq hT;have hsz:=zm5 hT;clear HS2 hk h39 hT;generalize byt s k=c0 at *;have hbd:Bld w.heap.size w.heap.size [] (w.alloc (.cells #[.pointer none,.slice none 0 0] 98)):=Lib.IsBuilderF.of (Lib.fresh_isBuilder _ _ _);have hbI:=Lib.IsBuilderF.alloc hbd (.stringIter (s.extract (k+1) s.size) 0);have HBI:Hq (Bld w.heap.size w.heap.size [] ((w.alloc (.cells #[.pointer none,.slice none 0 0] 98)).iter (s.extract (k+1) s.size) 0)):=hq hbI;have hb0:=za0 w (.cells #[.pointer none,.slice none 0 0] 98);have hbI2:Below w.heap.size w ((w.alloc (.cells #[.pointer none,.slice none 0 0] 98)).iter (s.extract (k+1) s.size) 0):=hb0.alloc (by simp) _;have hit0:=World.iter_heap (w.alloc (.cells #[.pointer none,.slice none 0 0] 98)) (s.extract (k+1) s.size) 0;rw[World.size_alloc]at hit0;have HB0:=hq hbI2;have HIT0:=hq hit0;clear hbd hbI hbI2 hb0 hit0;have hes:(s.extract (k+1) s.size).size=s.size-(k+1):=by rw[ByteArray.size_extract];omega
     have HEX:=hq hes;have HDC:Hq (∀pos,k+1+pos<s.size->Utf8.decode (s.extract (k+1) s.size) pos=Utf8.decode s (k+1+pos)):=hq (fun pos h=>zx0 s (k+1) s.size pos (Nat.le_refl _) (.inl rfl) h);clear hes;go_enter Tryz.func69,Tryz.ntmps69
     go_wp2_with fail
     generalize s.extract (k+1) s.size=U at *
     go_loopw [8] (fun h wr=> ∃(pos f:Nat) (half:Bool) (acc:Bs),k+1+pos<=s.size/\h= .bool half/\wr.heap[w.heap.size+1]?=some (.stringIter U pos)/\Hq (Bld w.heap.size w.heap.size acc wr)/\Below w.heap.size w wr/\Hq (V=sglH s f (k+1+pos) half acc)/\s.size<=k+1+pos+f/\acc.length<=pos) (fun _ wr=>s.size-wr.iterPos (w.heap.size+1))
     case atStart=>exact⟨0,s.size,false,[],by omega,rfl,HIT0.o,HBI,HB0.o,HN,by omega,Nat.le_refl _⟩
     case round=>
      obtain⟨pos,f,half,acc,hps,rfl,hit,hbd,hb,hv,hf,hal⟩:=hrel;clear HN HBI HB0 HIT0;have hlt:w.heap.size+1<wr.heap.size:=(Array.getElem?_eq_some_iff.1 hit).1;by_cases hp:k+1+pos<s.size
      ·have hpU:pos<U.size:=by rw[HEX.o];omega
       have hd:=HDC.o pos hp;have hnx: ∀ty,(Instr.next (.pointer (some ⟨w.heap.size+1,0,none⟩)) true ty).run Tryz.prog wr=_:=fun ty=>Lib.run_next_any_at wr (w.heap.size+1) U pos ty hit hpU
       obtain⟨f,rfl⟩: ∃g,f=g+1:=⟨f-1,by omega⟩;have hwp:=zi4 s (k+1+pos);have hwl:=zp8 s (k+1+pos) hp;have hit2:=Lib.iterAt_heap wr (w.heap.size+1) U pos (pos+(Utf8.decode U pos).2) hit;have hb2:=Lib.below_iterAt hb (k:=w.heap.size+1) (by omega) U (pos+(Utf8.decode U pos).2);have hbd2:Bld w.heap.size w.heap.size acc (wr.iterAt (w.heap.size+1) U (pos+(Utf8.decode U pos).2)):=Lib.IsBuilderF.iterAt hbd.o hit _;have hsz2:=Lib.iterAt_size wr (w.heap.size+1) U (pos+(Utf8.decode U pos).2);rw[hd]at hnx hit2 hb2 hbd2 hsz2;have hT2:Hq (tabs (wr.iterAt (w.heap.size+1) U (pos+(Utf8.decode s (k+1+pos)).2))):=hq (zp9 HT.o hb2 hsz.1 hsz.2);have k1:=dec_lt s (k+1+pos) 32 (by omega);have k2:=dec_is s (k+1+pos) 39 (by omega);have HBR:=hq (ybroken_any s (k+1+pos) (wr.iterAt (w.heap.size+1) U (pos+(Utf8.decode s (k+1+pos)).2)) hT2.o hs hp);have hq1:(((k+1+pos:Nat)):Int)=(k:Int)+1+(pos:Int):=by omega
       rw[hq1]at HBR;have HB2:=hq hb2;have HIT:=hq hit2;have HIT0:=hq hit;have HBD2:=hq hbd2;have HSZ:=hq hsz2;have hBw:w.heap.size<=(wr.iterAt (w.heap.size+1) U (pos+(Utf8.decode s (k+1+pos)).2)).heap.size:=by rw[hsz2];omega
       have HBW:=hq hBw;have hm0:Hq (wr.iterPos (w.heap.size+1)=pos):=hq (by simp only[World.iterPos,hit]);clear hit2 hb2 hit hbd hbd2 hsz2 hd hq1 hBw HDC;by_cases h39:byt s (k+1+pos)=39
       ·have c39:(((Utf8.decode s (k+1+pos)).1:Nat):Int)=39:=by rw[k2.2 h39];rfl
        have e3:((((Utf8.decode s (k+1+pos)).1:Nat):Int) !=39)=false:=by rw[c39];rfl
        have e4:((((Utf8.decode s (k+1+pos)).1:Nat):Int)==39)=true:=by rw[c39];rfl
        have e5: ¬(((Utf8.decode s (k+1+pos)).1:Nat):Int)<32:=by omega
        have hw1:wd s (k+1+pos)=1:=zK1 s _ (by omega);cases half with
        |false=>
         have HN:Hq (V=sglH s f (k+1+(pos+1)) true acc):=hq (hv.o.trans (sglH_quote hp h39));have HIT1:Hq ((wr.iterAt (w.heap.size+1) U (pos+(Utf8.decode s (k+1+pos)).2)).heap[w.heap.size+1]?=some (.stringIter U (pos+1))):=hq (by rw[HIT.o];show some (Obj.stringIter U (pos+wd s (k+1+pos)))=_;rw[hw1]);have hm1:Hq ((wr.iterAt (w.heap.size+1) U (pos+(Utf8.decode s (k+1+pos)).2)).iterPos (w.heap.size+1)=pos+1):=hq (by simp only[World.iterPos,HIT1.o]);clear hv HBR k1 k2 h39 c39 hw1 HIT;go_wp2_with fail
         go_roundw
         case rel=>exact⟨pos+1,f,true,acc,by omega,rfl,HIT1.o,HBD2,HB2.o,HN,by omega,by omega⟩
         case measure=>rw[hm1.o,hm0.o];omega
        |true=>
         have hnb: ¬bad s (k+1+pos):=not_bad (by omega);have hru:zd2 s (k+1+pos)=[39]:=by rw[zq s _ hp (by omega),h39];rfl
         have HN:Hq (V=sglH s (f+1) (k+1+(pos+wd s (k+1+pos))) false (acc++zd2 s (k+1+pos))):=hq (hv.o.trans (by rw[sglH_pair hp h39,hw1,hru];rfl));have hrc:=zm7 s (k+1+pos) hp hnb;have hlr:(zd2 s (k+1+pos)).length=wd s (k+1+pos):=zi9 s _ hp;rw[decide_eq_false hnb]at HBR;have HRC:=hq hrc;have HLR:=hq hlr;have hcb:-2147483648<=(((Utf8.decode s (k+1+pos)).1:Nat):Int)/\(((Utf8.decode s (k+1+pos)).1:Nat):Int)<=2147483647:=by omega
         have HCB:=hq hcb;clear hv k1 k2 h39 c39 hw1 hnb hru hrc hlr hcb;go_wp2_with fail
         refine HBR.o.mono ?_;rintro e w2 ⟨rfl,hb3⟩;have hit3:w2.heap[w.heap.size+1]?=some (.stringIter U (pos+wd s (k+1+pos))):=(hb3.block _ (by rw[HSZ.o];exact hlt)).trans HIT.o;have hb4:=HB2.o.trans (hb3.mono (by rw[HSZ.o];omega));have hbd3:Bld w.heap.size w.heap.size acc w2:=HBD2.o.below hb3;have HWR:=hq (wrune w.heap.size w.heap.size acc (zd2 s (k+1+pos)) (((Utf8.decode s (k+1+pos)).1:Nat):Int) w2 HCB.o.1 HCB.o.2 HRC.o hbd3 (by omega) (Nat.le_trans HBW.o hb3.size));have HIT3:=hq hit3;clear hb3 HBR hbd3 hit3;go_wp2_with fail
         refine HWR.o.mono ?_;rintro e w3 ⟨⟨nn,rfl⟩,h3⟩;have hit4:=Lib.OthersKept.iter h3.2.2 HIT3.o (by omega);have hb5:Below w.heap.size w w3:=hb4.trans h3.2.1;have HBD4:=hq h3.1;have hm1:Hq (w3.iterPos (w.heap.size+1)=pos+wd s (k+1+pos)):=hq (by simp only[World.iterPos,hit4]);have hle:(acc++zd2 s (k+1+pos)).length<=pos+wd s (k+1+pos):=by rw[List.length_append,HLR.o];omega
         have HLE:=hq hle;clear h3 HWR hb4 hle;go_wp2_with fail
         go_roundw
         case rel=>exact⟨pos+wd s (k+1+pos),f+1,false,_,by omega,rfl,hit4,HBD4,hb5,HN,by omega,HLE.o⟩
         case measure=>rw[hm1.o,hm0.o];omega
       ·have c39:(((Utf8.decode s (k+1+pos)).1:Nat):Int)≠39:=fun h=>h39 (k2.1 (by omega))
        have e3:((((Utf8.decode s (k+1+pos)).1:Nat):Int) !=39)=true:=bne_iff_ne.2 c39;have e4:((((Utf8.decode s (k+1+pos)).1:Nat):Int)==39)=false:=beq_eq_false_iff_ne.2 c39;cases half with
        |true=>
         have HN:Hq (V=(acc,k+1+pos,0)):=hq (hv.o.trans (sglH_over (fun h=>h39 h.2)));have HS:=hq (Tryz.Builder_String_any_k w.heap.size w.heap.size acc (wr.iterAt (w.heap.size+1) U (pos+(Utf8.decode s (k+1+pos)).2)) HBD2.o HBW.o);clear hv HBR k1 k2 h39 c39;go_wp2_with fail
         refine HS.o.mono ?_;rintro e w4 ⟨rfl,_,h5,_⟩;have hb6:Below w.heap.size w w4:=HB2.o.trans h5;clear h5 HS;go_wp2_with fail
         go_ret3
         exact⟨by rw[HN.o];rfl,hb6⟩
        |false=>
         by_cases h32:byt s (k+1+pos)<32
         ·have HN:Hq (V=([],k+1+pos,2)):=hq (hv.o.trans (sglH_bad hp h39 (.inr h32)));have e5:(((Utf8.decode s (k+1+pos)).1:Nat):Int)<32:=by have:=k1.2 h32;omega
          clear hv HBR k1 k2 h39 c39 h32;go_wp2_with fail
          go_ret3
          exact⟨by rw[HN.o];rfl,HB2.o⟩
         ·have e5: ¬(((Utf8.decode s (k+1+pos)).1:Nat):Int)<32:=by have:=mt k1.1 h32;omega
          by_cases hbad:bad s (k+1+pos)
          ·have HN:Hq (V=([],k+1+pos,2)):=hq (hv.o.trans (sglH_bad hp h39 (.inl hbad)));rw[decide_eq_true hbad]at HBR;clear hv k1 k2 h39 c39 h32 hbad;go_wp2_with fail
           refine HBR.o.mono ?_;rintro e w2 ⟨rfl,hb3⟩;have hb4:=HB2.o.trans (hb3.mono (by rw[HSZ.o];omega));clear hb3 HBR;go_wp2_with fail
           go_ret3
           exact⟨by rw[HN.o];rfl,hb4⟩
          ·have HN:Hq (V=sglH s f (k+1+(pos+wd s (k+1+pos))) false (acc++zd2 s (k+1+pos))):=hq (hv.o.trans (by rw[sglH_rune hp h39 (fun h=>h.elim hbad h32),Nat.add_assoc (k+1)]));have hrc:=zm7 s (k+1+pos) hp hbad;have hlr:(zd2 s (k+1+pos)).length=wd s (k+1+pos):=zi9 s _ hp;have hfi:=zv0 s (k+1+pos) hbad;have hcb:-2147483648<=(((Utf8.decode s (k+1+pos)).1:Nat):Int)/\(((Utf8.decode s (k+1+pos)).1:Nat):Int)<=2147483647:=by omega
           rw[decide_eq_false hbad]at HBR;have HRC:=hq hrc;have HLR:=hq hlr;have HCB:=hq hcb;clear hv k1 k2 h39 c39 hbad hrc hlr hcb hfi h32;go_wp2_with fail
           refine HBR.o.mono ?_;rintro e w2 ⟨rfl,hb3⟩;have hit3:w2.heap[w.heap.size+1]?=some (.stringIter U (pos+wd s (k+1+pos))):=(hb3.block _ (by rw[HSZ.o];exact hlt)).trans HIT.o;have hb4:=HB2.o.trans (hb3.mono (by rw[HSZ.o];omega));have hbd3:Bld w.heap.size w.heap.size acc w2:=HBD2.o.below hb3;have HWR:=hq (wrune w.heap.size w.heap.size acc (zd2 s (k+1+pos)) (((Utf8.decode s (k+1+pos)).1:Nat):Int) w2 HCB.o.1 HCB.o.2 HRC.o hbd3 (by omega) (Nat.le_trans HBW.o hb3.size));have HIT3:=hq hit3;clear hb3 HBR hbd3 hit3;go_wp2_with fail
           refine HWR.o.mono ?_;rintro e w3 ⟨⟨nn,rfl⟩,h3⟩;have hit4:=Lib.OthersKept.iter h3.2.2 HIT3.o (by omega);have hb5:Below w.heap.size w w3:=hb4.trans h3.2.1;have HBD4:=hq h3.1;have hm1:Hq (w3.iterPos (w.heap.size+1)=pos+wd s (k+1+pos)):=hq (by simp only[World.iterPos,hit4]);have hle:(acc++zd2 s (k+1+pos)).length<=pos+wd s (k+1+pos):=by rw[List.length_append,HLR.o];omega
           have HLE:=hq hle;clear h3 HWR hb4 hle;go_wp2_with fail
           go_roundw
           case rel=>exact⟨pos+wd s (k+1+pos),f,false,_,by omega,rfl,hit4,HBD4,hb5,HN,by omega,HLE.o⟩
           case measure=>rw[hm1.o,hm0.o];omega
      ·have hpU: ¬pos<U.size:=by rw[HEX.o];omega
       have hnx: ∀ty,(Instr.next (.pointer (some ⟨w.heap.size+1,0,none⟩)) true ty).run Tryz.prog wr=_:=fun ty=>Lib.run_next_end_at wr (w.heap.size+1) U pos ty hit hpU
       have hq1:k+1+pos=s.size:=by omega
       cases half with
       |true=>
        have HN:Hq (V=(acc,s.size,0)):=hq (by rw[hv.o,sglH_over (fun h=>hp h.1),hq1]);have HS:=hq (Tryz.Builder_String_any_k w.heap.size w.heap.size acc wr hbd.o (by omega));clear hv hq1;go_wp2_with fail
        refine HS.o.mono ?_;rintro e w4 ⟨rfl,_,h5,_⟩;have hb6:Below w.heap.size w w4:=hb.trans h5;clear h5 HS;go_wp2_with fail
        go_ret3
        exact⟨by rw[HN.o];rfl,hb6⟩
       |false=>
        have HN:Hq (V=([],s.size,2)):=hq (by rw[hv.o,sglH_end hp]);clear hv hq1;go_wp2_with fail
        go_ret3
        exact⟨by rw[HN.o];rfl,hb⟩
end Go.Proofs.YtkafjblfjdpdaaaGreatDoor
