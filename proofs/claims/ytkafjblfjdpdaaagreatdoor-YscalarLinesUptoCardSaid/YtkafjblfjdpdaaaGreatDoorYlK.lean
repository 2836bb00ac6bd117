/-
  WALKS: yline.quoted, yline.key.
-/
import Derived.Test.YtkafjblfjdpdaaaGreatDoorYlS
import Derived.Test.YtkafjblfjdpdaaaGreatDoorUnv
namespace Go.Proofs.YtkafjblfjdpdaaaGreatDoor
open Go.RowKit
def QtdPost(x:Nat×Bool×Bool)(w:World)(e:Ending)(w':World):Prop:=e= .returned (.tuple #[.int .i64 (x.1:Int),.bool x.2.1,.bool x.2.2])∧Below w.heap.size w w'
set_option maxHeartbeats 1000000 in
set_option maxRecDepth 1000000 in
theorem yquoted_any(s:ByteArray)(p:Nat)(w:World)(hT:tabs w)(hs:s.size≤1099511627776)(hp:p≤s.size):
 Calls Tryz.prog 107 #[.string s,.int .i64 (p:Int)] w (QtdPost (qtd s p) w):=by
 have HS:Hq (qtd s p=if p=s.size then(p,false,false)
  else if byt s p=34 then((scanM s p).1,true,(scanM s p).2.1==0)
  else if byt s p=39 then((sglM s p).2.1,true,(sglM s p).2.2==0)
  else(p,false,false)):=hq rfl
 generalize qtd s p=V at *
 by_cases hk:p=s.size
 ·have HN:=hq (HS.o.trans (if_pos hk))
  have e1:((p:Int)==(s.size:Int))=true:=beq_int_true hk
  clear HS hk
  go_enter Tryz.func107,Tryz.ntmps107
  go_wp2_with fail
  go_ret3
  exact⟨by rw[HN.o];rfl,Below.refl _ _⟩
 ·have HS2:=hq (HS.o.trans (if_neg hk))
  have e1:((p:Int)==(s.size:Int))=false:=beq_int_false hk
  have hks:p<s.size:=by omega
  have y0:((s[p]'hks).toNat:Int)=(byt s p:Int):=by rw[byt_eq s p hks]
  clear HS hk
  by_cases h34:byt s p=34
  ·have HN:=hq (HS2.o.trans (if_pos h34))
   have e2:((byt s p:Int)==34)=true:=beq_int_true h34
   have HE:=hq (end_any s (p:Int) w hT hs (by omega))
   have hem:endM s (p:Int)=((scanM s p).1,(scanM s p).2.1):=by unfold endM;rw[if_neg (by omega)];rfl
   rw[hem]at HE
   clear HS2 h34 hem hT
   generalize scanM s p=X at *
   obtain⟨xe,xr,xl⟩:=X
   generalize byt s p=c0 at *
   go_enter Tryz.func107,Tryz.ntmps107
   go_wp2_with fail
   refine HE.o.mono ?_
   rintro e w1 ⟨rfl,hb⟩
   clear HE
   go_wp2_with fail
   go_ret3
   exact⟨by rw[HN.o];rfl,hb⟩
  ·have HS3:=hq (HS2.o.trans (if_neg h34))
   have e2:((byt s p:Int)==34)=false:=beq_int_false h34
   clear HS2 h34
   by_cases h39:byt s p=39
   ·have HN:=hq (HS3.o.trans (if_pos h39))
    have e3:((byt s p:Int)==39)=true:=beq_int_true h39
    have HE:=hq (single_any s (p:Int) w hT hs (by omega))
    clear HS3 h39 hT
    generalize sglM s p=X at *
    obtain⟨xl,xe,xr⟩:=X
    generalize byt s p=c0 at *
    go_enter Tryz.func107,Tryz.ntmps107
    go_wp2_with fail
    refine HE.o.mono ?_
    rintro e w1 ⟨rfl,hb⟩
    clear HE
    go_wp2_with fail
    go_ret3
    exact⟨by rw[HN.o];rfl,hb⟩
   ·have HN:=hq (HS3.o.trans (if_neg h39))
    have e3:((byt s p:Int)==39)=false:=beq_int_false h39
    clear HS3 h39 hT
    generalize byt s p=c0 at *
    go_enter Tryz.func107,Tryz.ntmps107
    go_wp2_with fail
    go_ret3
    exact⟨by rw[HN.o];rfl,Below.refl _ _⟩
def KeyPost(x:Nat×Bool)(w:World)(e:Ending)(w':World):Prop:=e= .returned (.tuple #[.int .i64 (x.1:Int),.bool x.2])∧Below w.heap.size w w'
set_option maxHeartbeats 2000000 in
set_option maxRecDepth 1000000 in
theorem ykey_any(s:ByteArray)(p:Nat)(w:World)(hT:tabs w)(hs:s.size≤1099511627776)(hp:p<s.size):
 Calls Tryz.prog 65 #[.string s,.int .i64 (p:Int)] w (KeyPost (ykeyM s p) w):=by
 have HS:Hq (ykeyM s p=if (qtd s p).2.1=true then(if (qtd s p).2.2=true∧sgn s (qtd s p).1 58=true then((qtd s p).1,true) else(p,(qtd s p).2.2))
  else if byt s p=91∨byt s p=123 then(p,true)
  else(keyTo s p p,true)):=hq rfl
 have HQ:=hq (yquoted_any s p w hT hs (by omega))
 obtain⟨_,hqe,_⟩:=qtd_bd s p (by omega)
 have y0:((s[p]'hp).toNat:Int)=(byt s p:Int):=by rw[byt_eq s p hp]
 clear hT
 generalize ykeyM s p=V at *
 generalize qtd s p=Q at *
 obtain⟨qe,qb,qo⟩:=Q
 simp only at hqe
 cases qb with
 |true=>
  have HS2:Hq (V=if qo=true∧sgn s qe 58=true then(qe,true) else(p,qo)):=hq (HS.o.trans (if_pos rfl))
  have HG:=hq (fun W=>ysign_any s qe 58 W hs hqe)
  clear HS
  cases qo with
  |true=>
   generalize sgn s qe 58=G at *
   cases G with
   |true=>
    have HN:=hq (HS2.o.trans (if_pos ⟨rfl,rfl⟩))
    clear HS2
    go_enter Tryz.func65,Tryz.ntmps65
    go_wp2_with fail
    refine HQ.o.mono ?_
    rintro e w1 ⟨rfl,hb⟩
    clear HQ
    go_wp2_with fail
    refine(HG.o _).mono ?_
    rintro e w2 ⟨rfl,hw⟩
    obtain rfl:=hw
    clear HG
    go_wp2_with fail
    go_ret2
    exact⟨by rw[HN.o];rfl,hb⟩
   |false=>
    have HN:=hq (HS2.o.trans (if_neg (fun h=>by cases h.2)))
    clear HS2
    go_enter Tryz.func65,Tryz.ntmps65
    go_wp2_with fail
    refine HQ.o.mono ?_
    rintro e w1 ⟨rfl,hb⟩
    clear HQ
    go_wp2_with fail
    refine(HG.o _).mono ?_
    rintro e w2 ⟨rfl,hw⟩
    obtain rfl:=hw
    clear HG
    go_wp2_with fail
    go_ret2
    exact⟨by rw[HN.o];rfl,hb⟩
  |false=>
   have HN:=hq (HS2.o.trans (if_neg (fun h=>by cases h.1)))
   clear HS2 HG
   go_enter Tryz.func65,Tryz.ntmps65
   go_wp2_with fail
   refine HQ.o.mono ?_
   rintro e w1 ⟨rfl,hb⟩
   clear HQ
   go_wp2_with fail
   go_ret2
   exact⟨by rw[HN.o];rfl,hb⟩
 |false=>
  have HS2:Hq (V=if byt s p=91∨byt s p=123 then(p,true) else(keyTo s p p,true)):=hq (HS.o.trans (if_neg (fun h=>by cases h)))
  clear HS
  by_cases hbr:byt s p=91∨byt s p=123
  ·have HN:=hq (HS2.o.trans (if_pos hbr))
   have key:((byt s p:Int)==91)=true∨(((byt s p:Int)==91)=false∧((byt s p:Int)==123)=true):=by
    by_cases h:byt s p=91
    ·exact .inl (beq_int_true h)
    ·exact .inr ⟨beq_int_false h,beq_int_true (show byt s p=123 by omega)⟩
   clear HS2 hbr
   generalize byt s p=c0 at *
   rcases key with e1|⟨e1,e2⟩
   all_goals
    go_enter Tryz.func65,Tryz.ntmps65
    go_wp2_with fail
    refine HQ.o.mono ?_
    rintro e w1 ⟨rfl,hb⟩
    clear HQ
    go_wp2_with fail
    go_ret2
    exact⟨by rw[HN.o];rfl,hb⟩
  ·have HS3:Hq (V=(keyTo s p (p+0),true)):=hq (HS2.o.trans (if_neg hbr))
   have e1:((byt s p:Int)==91)=false:=beq_int_false (show byt s p≠91 by omega)
   have e2:((byt s p:Int)==123)=false:=beq_int_false (show byt s p≠123 by omega)
   clear HS2 hbr
   generalize byt s p=c0 at *
   have hes:(s.extract p s.size).size=s.size-p:=by rw[ByteArray.size_extract];omega
   have HEX:=hq hes
   have HDC:Hq (∀pos,p+pos<s.size→Utf8.decode (s.extract p s.size) pos=Utf8.decode s (p+pos)):=hq (fun pos h=>dec_cut s p s.size pos (Nat.le_refl _) (.inl rfl) h)
   clear hes
   go_enter Tryz.func65,Tryz.ntmps65
   go_wp2_with fail
   refine HQ.o.mono ?_
   rintro e w1 ⟨rfl,hb⟩
   clear HQ
   go_wp2_with fail
   have hws:=hb.size
   have hit0:=World.iter_heap w1 (s.extract p s.size) 0
   have hb0:Below w.heap.size w (w1.iter (s.extract p s.size) 0):=hb.alloc hws _
   generalize s.extract p s.size=U at *
   go_loopw [] (fun wr=> ∃(pos:Nat),p+pos≤s.size∧wr.heap[w1.heap.size]?=some (.stringIter U pos)∧Below w.heap.size w wr∧Hq (V=(keyTo s p (p+pos),true))) (fun wr=>s.size-wr.iterPos w1.heap.size)
   case atStart=>exact⟨0,by omega,hit0,hb0,HS3⟩
   case round=>
    obtain⟨pos,hps,hit,hbr,hv⟩:=hrel
    clear HS3 hit0 hb0
    have hlt:w1.heap.size<wr.heap.size:=(Array.getElem?_eq_some_iff.1 hit).1
    by_cases hq1:p+pos<s.size
    ·have hpU:pos<U.size:=by rw[HEX.o];omega
     have hd:=HDC.o pos hq1
     have hnx: ∀ty,(Instr.next (.pointer (some ⟨w1.heap.size,0,none⟩)) true ty).run Tryz.prog wr=_:=fun ty=>Lib.run_next_any_at wr w1.heap.size U pos ty hit hpU
     have hwp:=wd_pos s (p+pos)
     have hwl:=wd_le s (p+pos) hq1
     have hit2:=Lib.iterAt_heap wr w1.heap.size U pos (pos+(Utf8.decode U pos).2) hit
     have hb2:=Lib.below_iterAt hbr (k:=w1.heap.size) hws U (pos+(Utf8.decode U pos).2)
     rw[hd]at hnx hit2 hb2
     have k1:=dec_is s (p+pos) 35 (by omega)
     have HIT:=hq hit2
     have HB2:=hq hb2
     have hm0:Hq (wr.iterPos w1.heap.size=pos):=hq (by simp only[World.iterPos,hit])
     have hm1:Hq ((wr.iterAt w1.heap.size U (pos+(Utf8.decode s (p+pos)).2)).iterPos w1.heap.size=pos+wd s (p+pos)):=hq (by simp only[World.iterPos,hit2];rfl)
     have HSG:=hq (fun W=>ysign_any s (p+pos) 58 W hs (Nat.le_of_lt hq1))
     have HCM:=hq (fun W h35=>ycomment_any s (p+pos) W hs hq1 h35)
     have hcast:((p+pos:Nat):Int)=(p:Int)+(pos:Int):=by omega
     rw[hcast]at HSG HCM
     have HK1:=hq (@keyTo_cmt s p (p+pos) hq1)
     have HK2:=hq (@keyTo_hit s p (p+pos) hq1)
     have HK3:=hq (@keyTo_rune s p (p+pos) hq1)
     have HHC:=hq (@high_cmt s (p+pos))
     clear hit2 hb2 hd hcast HDC hit hbr
     have key:(byt s (p+pos)=35∧cmt s (p+pos)=true)∨(byt s (p+pos)=35∧cmt s (p+pos)=false)∨(byt s (p+pos)≠35∧cmt s (p+pos)=false):=by
      by_cases h:byt s (p+pos)=35
      ·cases hc:cmt s (p+pos) with
       |true=>exact .inl ⟨h,rfl⟩
       |false=>exact .inr (.inl ⟨h,rfl⟩)
      ·exact .inr (.inr ⟨h,HHC.o h⟩)
     rcases key with ⟨h35,hc⟩|hrest
     ·have e3:((((Utf8.decode s (p+pos)).1:Nat):Int)==35)=true:=by rw[k1.2 h35];rfl
      have HN:Hq (V=(p,true)):=hq (by rw[hv.o,HK1.o hc])
      have HC:=hq (fun W=>HCM.o W h35)
      rw[hc]at HC
      clear hv HCM h35 hc k1 HSG HK1 HK2 HK3 HHC
      go_wp2_with fail
      refine(HC.o _).mono ?_
      rintro e w2 ⟨rfl,hw⟩
      obtain rfl:=hw
      clear HC
      go_wp2_with fail
      go_ret2
      exact⟨by rw[HN.o];rfl,HB2.o⟩
     ·have hcf:cmt s (p+pos)=false:=hrest.elim (fun h=>h.2) (fun h=>h.2)
      by_cases hpos:0<pos
      ·have hpos':(0:Int)<(pos:Int):=by omega
       have HK2':=hq (fun h3=>HK2.o hcf (by omega) h3)
       have HK3':=hq (fun h3:sgn s (p+pos) 58=false=>HK3.o hcf (fun _=>h3))
       have HHV:=hv
       generalize hG:sgn s (p+pos) 58=G at *
       rcases hrest with ⟨h35,hc⟩|⟨h35,hc⟩
       ·have e3:((((Utf8.decode s (p+pos)).1:Nat):Int)==35)=true:=by rw[k1.2 h35];rfl
        have HC:=hq (fun W=>HCM.o W h35)
        rw[hc]at HC
        cases G with
        |true=>
         have HN:Hq (V=(p+pos,true)):=hq (by rw[hv.o,HK2'.o rfl])
         clear hv HCM h35 hc k1 HK1 HK2 HK3 HK2' HK3' HHC hcf HHV hG
         go_wp2_with fail
         refine(HC.o _).mono ?_
         rintro e w2 ⟨rfl,hw⟩
         obtain rfl:=hw
         clear HC
         go_wp2_with fail
         refine(HSG.o _).mono ?_
         rintro e w2 ⟨rfl,hw⟩
         obtain rfl:=hw
         clear HSG
         go_wp2_with fail
         go_ret2
         exact⟨by rw[HN.o];rfl,HB2.o⟩
        |false=>
         have HN:Hq (V=(keyTo s p (p+(pos+wd s (p+pos))),true)):=hq (by rw[hv.o,HK3'.o rfl,Nat.add_assoc])
         clear hv HCM h35 hc k1 HK1 HK2 HK3 HK2' HK3' HHC hcf HHV hG
         go_wp2_with fail
         refine(HC.o _).mono ?_
         rintro e w2 ⟨rfl,hw⟩
         obtain rfl:=hw
         clear HC
         go_wp2_with fail
         refine(HSG.o _).mono ?_
         rintro e w2 ⟨rfl,hw⟩
         obtain rfl:=hw
         clear HSG
         go_wp2_with fail
         go_roundw
         case rel=>exact⟨pos+wd s (p+pos),by omega,HIT.o,HB2.o,HN⟩
         case measure=>rw[hm1.o,hm0.o];omega
       ·have e3:((((Utf8.decode s (p+pos)).1:Nat):Int)==35)=false:=beq_eq_false_iff_ne.2 (by have:=mt k1.1 h35;omega)
        cases G with
        |true=>
         have HN:Hq (V=(p+pos,true)):=hq (by rw[hv.o,HK2'.o rfl])
         clear hv HCM h35 hc k1 HK1 HK2 HK3 HK2' HK3' HHC hcf HHV hG
         go_wp2_with fail
         refine(HSG.o _).mono ?_
         rintro e w2 ⟨rfl,hw⟩
         obtain rfl:=hw
         clear HSG
         go_wp2_with fail
         go_ret2
         exact⟨by rw[HN.o];rfl,HB2.o⟩
        |false=>
         have HN:Hq (V=(keyTo s p (p+(pos+wd s (p+pos))),true)):=hq (by rw[hv.o,HK3'.o rfl,Nat.add_assoc])
         clear hv HCM h35 hc k1 HK1 HK2 HK3 HK2' HK3' HHC hcf HHV hG
         go_wp2_with fail
         refine(HSG.o _).mono ?_
         rintro e w2 ⟨rfl,hw⟩
         obtain rfl:=hw
         clear HSG
         go_wp2_with fail
         go_roundw
         case rel=>exact⟨pos+wd s (p+pos),by omega,HIT.o,HB2.o,HN⟩
         case measure=>rw[hm1.o,hm0.o];omega
      ·have hpos': ¬(0:Int)<(pos:Int):=by omega
       have HN:Hq (V=(keyTo s p (p+(pos+wd s (p+pos))),true)):=hq (by rw[hv.o,HK3.o hcf (fun h=>by omega),Nat.add_assoc])
       rcases hrest with ⟨h35,hc⟩|⟨h35,hc⟩
       ·have e3:((((Utf8.decode s (p+pos)).1:Nat):Int)==35)=true:=by rw[k1.2 h35];rfl
        have HC:=hq (fun W=>HCM.o W h35)
        rw[hc]at HC
        clear hv HCM h35 hc k1 HK1 HK2 HK3 HHC hcf HSG
        go_wp2_with fail
        refine(HC.o _).mono ?_
        rintro e w2 ⟨rfl,hw⟩
        obtain rfl:=hw
        clear HC
        go_wp2_with fail
        go_roundw
        case rel=>exact⟨pos+wd s (p+pos),by omega,HIT.o,HB2.o,HN⟩
        case measure=>rw[hm1.o,hm0.o];omega
       ·have e3:((((Utf8.decode s (p+pos)).1:Nat):Int)==35)=false:=beq_eq_false_iff_ne.2 (by have:=mt k1.1 h35;omega)
        clear hv HCM h35 hc k1 HK1 HK2 HK3 HHC hcf HSG
        go_wp2_with fail
        go_roundw
        case rel=>exact⟨pos+wd s (p+pos),by omega,HIT.o,HB2.o,HN⟩
        case measure=>rw[hm1.o,hm0.o];omega
    ·have hpU: ¬pos<U.size:=by rw[HEX.o];omega
     have hnx: ∀ty,(Instr.next (.pointer (some ⟨w1.heap.size,0,none⟩)) true ty).run Tryz.prog wr=_:=fun ty=>Lib.run_next_end_at wr w1.heap.size U pos ty hit hpU
     have HN:Hq (V=(p,true)):=hq (by rw[hv.o,keyTo_end hq1])
     clear hv
     go_wp2_with fail
     go_ret2
     exact⟨by rw[HN.o];rfl,hbr⟩
end Go.Proofs.YtkafjblfjdpdaaaGreatDoor
