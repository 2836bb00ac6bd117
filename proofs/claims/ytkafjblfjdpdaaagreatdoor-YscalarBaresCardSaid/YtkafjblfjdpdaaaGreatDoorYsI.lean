/-
  WALKS: yscalar.plain, yscalar.safe.
-/
import Derived.Test.YtkafjblfjdpdaaaGreatDoorYsH
import Derived.Test.YtkafjblfjdpdaaaGreatDoorRun
namespace Go.Proofs.YtkafjblfjdpdaaaGreatDoor
open Go.RowKit
set_option maxHeartbeats 1000000 in
set_option maxRecDepth 1000000 in
theorem yplain_any(s:ByteArray)(w:World)(_hs:s.size≤maxLen):
 Calls Tryz.prog 40 #[.string s] w fun e w'=>e= .returned (.bool (plainL s.data.toList))∧Below w.heap.size w w':=by
 have HV:Hq (plainL s.data.toList=plainP s 0):=hq rfl
 generalize plainL s.data.toList=V at *
 go_enter Tryz.func40,Tryz.ntmps40
 go_wp2_with fail
 go_loopw [] (fun wr=> ∃pos:Nat,pos≤s.size∧wr.heap[w.heap.size]?=some (.stringIter s pos)∧Below w.heap.size w wr∧Hq (V=plainP s pos)) (fun wr=>s.size-wr.iterPos w.heap.size)
 case atStart=>exact⟨0,Nat.zero_le _,World.iter_heap w s 0,(Below.refl _ _).alloc (Nat.le_refl _) _,HV⟩
 case round=>
  obtain⟨pos,hps,hit,hb,hv⟩:=hrel
  clear HV
  by_cases hp:pos<s.size
  ·have hnx: ∀ty,(Instr.next (.pointer (some ⟨w.heap.size,0,none⟩)) true ty).run Tryz.prog wr=_:=fun ty=>Lib.run_next_any_at wr w.heap.size s pos ty hit hp
   have hwp:=wd_pos s pos
   have hwl:=wd_le s pos hp
   have hit2:=Lib.iterAt_heap wr w.heap.size s pos (pos+(Utf8.decode s pos).2) hit
   have hb2:=Lib.below_iterAt hb (k:=w.heap.size) (Nat.le_refl _) s (pos+(Utf8.decode s pos).2)
   have k1:=dec_ltY s pos 32 (by omega)
   have k2:=dec_isY s pos 127 (by omega)
   have HB2:=hq hb2
   have HIT:=hq hit2
   have HIT0:=hq hit
   clear hit2 hb2 hit
   by_cases h32:byt s pos<32
   ·have HN:Hq (V=false):=hq (by rw[hv.o,plainP_bad hp (.inl h32)])
    have e1:(((Utf8.decode s pos).1:Nat):Int)<32:=by have:=k1.2 h32;omega
    clear hv k1 k2 h32
    go_wp2_with fail
    go_ret
    exact⟨by rw[HN.o];rfl,HB2.o⟩
   ·have e1: ¬(((Utf8.decode s pos).1:Nat):Int)<32:=by have:=mt k1.1 h32;omega
    by_cases h127:byt s pos=127
    ·have HN:Hq (V=false):=hq (by rw[hv.o,plainP_bad hp (.inr h127)])
     have e2:((((Utf8.decode s pos).1:Nat):Int)==127)=true:=by rw[k2.2 h127];rfl
     clear hv k1 k2 h32 h127
     go_wp2_with fail
     go_ret
     exact⟨by rw[HN.o];rfl,HB2.o⟩
    ·have e2:((((Utf8.decode s pos).1:Nat):Int)==127)=false:=beq_eq_false_iff_ne.2 (by have:=mt k2.1 h127;omega)
     have HN:Hq (V=plainP s (pos+wd s pos)):=hq (by rw[hv.o,plainP_step hp h32 h127])
     have hm1:Hq ((wr.iterAt w.heap.size s (pos+(Utf8.decode s pos).2)).iterPos w.heap.size=pos+wd s pos):=hq (by simp only[World.iterPos,HIT.o];rfl)
     have hm0:Hq (wr.iterPos w.heap.size=pos):=hq (by simp only[World.iterPos,HIT0.o])
     clear hv k1 k2 h32 h127
     go_wp2_with fail
     go_roundw
     case rel=>exact⟨pos+wd s pos,hwl,HIT.o,HB2.o,HN⟩
     case measure=>rw[hm1.o,hm0.o];omega
  ·have hnx: ∀ty,(Instr.next (.pointer (some ⟨w.heap.size,0,none⟩)) true ty).run Tryz.prog wr=_:=fun ty=>Lib.run_next_end_at wr w.heap.size s pos ty hit hp
   have HN:Hq (V=true):=hq (by rw[hv.o,plainP_end hp])
   clear hv
   go_wp2_with fail
   go_ret
   exact⟨by rw[HN.o];rfl,hb⟩
set_option maxHeartbeats 4000000 in
set_option maxRecDepth 1000000 in
theorem ysafe_any(s:ByteArray)(w:World)(hvd:(valid s).2=true)(hs:s.size≤17592186044416):
 Calls Tryz.prog 49 #[.string s] w fun e w'=>e= .returned (.string (st (safeL 0 s.data.toList)))∧Below w.heap.size w w':=by
 have HV:Hq (safeL 0 s.data.toList=[]++safeR s 0 0):=hq rfl
 have HVD:Hq ((vld s s.size 0).2=true):=hq hvd
 generalize safeL 0 s.data.toList=V at *
 clear hvd
 have hbd:Bld w.heap.size w.heap.size [] (w.alloc (.cells #[.pointer none,.slice none 0 0] 98)):=Lib.IsBuilderF.of (Lib.fresh_isBuilder _ _ _)
 have hbI:=Lib.IsBuilderF.alloc hbd (.stringIter s 0)
 have HBI:Hq (Bld w.heap.size w.heap.size [] ((w.alloc (.cells #[.pointer none,.slice none 0 0] 98)).iter s 0)):=hq hbI
 have hb0:=below_alloc w (.cells #[.pointer none,.slice none 0 0] 98)
 have hbI2:Below w.heap.size w ((w.alloc (.cells #[.pointer none,.slice none 0 0] 98)).iter s 0):=hb0.alloc (by simp) _
 have hit0:=World.iter_heap (w.alloc (.cells #[.pointer none,.slice none 0 0] 98)) s 0
 rw[World.size_alloc]at hit0
 have HB0:=hq hbI2
 have HIT0:=hq hit0
 clear hbd hbI hbI2 hb0 hit0
 go_enter Tryz.func49,Tryz.ntmps49
 go_wp2_with fail
 go_loopw [4] (fun h wr=> ∃(pos f last:Nat) (acc:Bs),pos≤s.size∧h= .int .i32 (last:Int)∧wr.heap[w.heap.size+1]?=some (.stringIter s pos)∧Hq (Bld w.heap.size w.heap.size acc wr)∧Below w.heap.size w wr∧Hq (V=acc++safeR s pos last)∧Hq ((vld s f pos).2=true)∧s.size≤pos+f∧acc.length≤6*pos) (fun _ wr=>s.size-wr.iterPos (w.heap.size+1))
 case atStart=>exact⟨0,s.size,0,[],Nat.zero_le _,rfl,HIT0.o,HBI,HB0.o,HV,HVD,by omega,Nat.zero_le _⟩
 case round=>
  obtain⟨pos,f,last,acc,hps,rfl,hit,hbd,hb,hv,hvd,hf,hal⟩:=hrel
  clear HV HBI HB0 HIT0 HVD
  have hlt:w.heap.size+1<wr.heap.size:=(Array.getElem?_eq_some_iff.1 hit).1
  by_cases hp:pos<s.size
  ·have hnx: ∀ty,(Instr.next (.pointer (some ⟨w.heap.size+1,0,none⟩)) true ty).run Tryz.prog wr=_:=fun ty=>Lib.run_next_any_at wr (w.heap.size+1) s pos ty hit hp
   obtain⟨f,rfl⟩: ∃g,f=g+1:=⟨f-1,by omega⟩
   have hnb: ¬bad s pos:=fun h=>by
    have:=hvd.o
    rw[vld_bad s f pos hp h]at this
    cases this
   have HVN:Hq ((vld s f (pos+wd s pos)).2=true):=hq (by rw[←vld_step s f pos hp hnb];exact hvd.o)
   have hwp:=wd_pos s pos
   have hwl:=wd_le s pos hp
   have hit2:=Lib.iterAt_heap wr (w.heap.size+1) s pos (pos+(Utf8.decode s pos).2) hit
   have hb2:=Lib.below_iterAt hb (k:=w.heap.size+1) (by omega) s (pos+(Utf8.decode s pos).2)
   have hbd2:Bld w.heap.size w.heap.size acc (wr.iterAt (w.heap.size+1) s (pos+(Utf8.decode s pos).2)):=Lib.IsBuilderF.iterAt hbd.o hit _
   have hsz2:=Lib.iterAt_size wr (w.heap.size+1) s (pos+(Utf8.decode s pos).2)
   have hBw:w.heap.size≤(wr.iterAt (w.heap.size+1) s (pos+(Utf8.decode s pos).2)).heap.size:=by rw[hsz2];omega
   have k2:=dec_isY s pos 127 (by omega)
   have k3:=dec_isY s pos 35 (by omega)
   have HB2:=hq hb2
   have HIT:Hq ((wr.iterAt (w.heap.size+1) s (pos+(Utf8.decode s pos).2)).heap[w.heap.size+1]?=some (.stringIter s (pos+wd s pos))):=hq hit2
   have HBD2:=hq hbd2
   have HBW:=hq hBw
   have hm0:Hq (wr.iterPos (w.heap.size+1)=pos):=hq (by simp only[World.iterPos,hit])
   clear hit2 hb2 hit hbd hbd2 hsz2 hBw hvd
   have fin: ∀(t:Bs) (w3:World),t.length≤6*wd s pos→V=acc++(t++safeR s (pos+wd s pos) (Utf8.decode s pos).1)→Wrote w.heap.size w.heap.size (acc++t) (wr.iterAt (w.heap.size+1) s (pos+(Utf8.decode s pos).2)) w3→
    (∃(pos' f last':Nat) (acc:Bs),pos'≤s.size∧(.int .i32 (((Utf8.decode s pos).1:Nat):Int):Value)= .int .i32 (last':Int)∧w3.heap[w.heap.size+1]?=some (.stringIter s pos')∧Hq (Bld w.heap.size w.heap.size acc w3)∧Below w.heap.size w w3∧Hq (V=acc++safeR s pos' last')∧Hq ((vld s f pos').2=true)∧s.size≤pos'+f∧acc.length≤6*pos')∧
    s.size-w3.iterPos (w.heap.size+1)<s.size-wr.iterPos (w.heap.size+1):=fun t w3 ht hV h3=>by
    have hit4:=Lib.OthersKept.iter h3.2.2 HIT.o (by omega)
    have hm1:w3.iterPos (w.heap.size+1)=pos+wd s pos:=by simp only[World.iterPos,hit4]
    refine⟨⟨pos+wd s pos,f,_,acc++t,hwl,rfl,hit4,hq h3.1,HB2.o.trans h3.2.1,hq (by rw[hV,List.append_assoc]),HVN,by omega,by rw[List.length_append];omega⟩,?_⟩
    rw[hm1,hm0.o]
    omega
   have FIN:=hq fin
   clear fin
   by_cases h127:byt s pos=127
   ·have e1:((((Utf8.decode s pos).1:Nat):Int)==127)=true:=by rw[k2.2 h127];rfl
    have HN:=hq (hv.o.trans (congrArg (acc++ ·) (safeR_del (last:=last) hp h127)))
    have HW:Hq (Calls Tryz.prog 91 #[.pointer (some ⟨w.heap.size,0,none⟩),.string ⟨#[92,117,48,48,55,102]⟩] _ _):=hq (wstring w.heap.size w.heap.size acc [92,117,48,48,55,102] _ HBD2.o (by simp only[List.length_cons,List.length_nil];omega) HBW.o)
    clear hv k2 k3 h127
    go_wp2_with fail
    refine HW.o.mono ?_
    rintro e w3 ⟨⟨nn,rfl⟩,h3⟩
    have HR:=hq (FIN.o _ w3 (by simp only[List.length_cons,List.length_nil];omega) HN.o h3)
    clear h3 HW FIN HN
    go_wp2_with fail
    go_roundw
    case rel=>obtain⟨⟨a,f,b,c,d⟩,_⟩:=HR.o;exact⟨a,f,b,c,d⟩
    case measure=>exact HR.o.2
   ·have e1:((((Utf8.decode s pos).1:Nat):Int)==127)=false:=beq_eq_false_iff_ne.2 (by have:=mt k2.1 h127;omega)
    by_cases h35:byt s pos=35∧last=32
    ·have e2:((((Utf8.decode s pos).1:Nat):Int)==35)=true:=by rw[k3.2 h35.1];rfl
     have e3:((last:Int)==32)=true:=by rw[h35.2];rfl
     have HN:=hq (hv.o.trans (congrArg (acc++ ·) (safeR_hash (last:=last) hp h35.1 h35.2)))
     have HW:Hq (Calls Tryz.prog 91 #[.pointer (some ⟨w.heap.size,0,none⟩),.string ⟨#[92,117,48,48,50,51]⟩] _ _):=hq (wstring w.heap.size w.heap.size acc [92,117,48,48,50,51] _ HBD2.o (by simp only[List.length_cons,List.length_nil];omega) HBW.o)
     clear hv k2 k3 h127 h35
     go_wp2_with fail
     refine HW.o.mono ?_
     rintro e w3 ⟨⟨nn,rfl⟩,h3⟩
     have HR:=hq (FIN.o _ w3 (by simp only[List.length_cons,List.length_nil];omega) HN.o h3)
     clear h3 HW FIN HN
     go_wp2_with fail
     go_roundw
     case rel=>obtain⟨⟨a,f,b,c,d⟩,_⟩:=HR.o;exact⟨a,f,b,c,d⟩
     case measure=>exact HR.o.2
    ·have HN:=hq (hv.o.trans (congrArg (acc++ ·) (safeR_rune (last:=last) hp h127 h35)))
     have hrc:=runeCells_at s pos hp hnb
     have hlr:(runeAt s pos).length=wd s pos:=runeAt_len s _ hp
     have hfi:=dec_fine s pos hnb
     have hcb:-2147483648≤(((Utf8.decode s pos).1:Nat):Int)∧(((Utf8.decode s pos).1:Nat):Int)≤2147483647:=by omega
     have HWR:=hq (wrune w.heap.size w.heap.size acc (runeAt s pos) (((Utf8.decode s pos).1:Nat):Int) _ hcb.1 hcb.2 hrc HBD2.o (by omega) HBW.o)
     have HLR:=hq hlr
     by_cases h35':byt s pos=35
     ·have e2:((((Utf8.decode s pos).1:Nat):Int)==35)=true:=by rw[k3.2 h35'];rfl
      have e3:((last:Int)==32)=false:=beq_eq_false_iff_ne.2 (fun e=>h35 ⟨h35',by omega⟩)
      clear hv k2 k3 h127 h35 hrc hlr hfi hcb h35'
      go_wp2_with fail
      refine HWR.o.mono ?_
      rintro e w3 ⟨⟨nn,rfl⟩,h3⟩
      have HR:=hq (FIN.o _ w3 (by rw[HLR.o];omega) HN.o h3)
      clear h3 HWR FIN HN
      go_wp2_with fail
      go_roundw
      case rel=>obtain⟨⟨a,f,b,c,d⟩,_⟩:=HR.o;exact⟨a,f,b,c,d⟩
      case measure=>exact HR.o.2
     ·have e2:((((Utf8.decode s pos).1:Nat):Int)==35)=false:=beq_eq_false_iff_ne.2 (by have:=mt k3.1 h35';omega)
      clear hv k2 k3 h127 h35 hrc hlr hfi hcb h35'
      go_wp2_with fail
      refine HWR.o.mono ?_
      rintro e w3 ⟨⟨nn,rfl⟩,h3⟩
      have HR:=hq (FIN.o _ w3 (by rw[HLR.o];omega) HN.o h3)
      clear h3 HWR FIN HN
      go_wp2_with fail
      go_roundw
      case rel=>obtain⟨⟨a,f,b,c,d⟩,_⟩:=HR.o;exact⟨a,f,b,c,d⟩
      case measure=>exact HR.o.2
  ·have hnx: ∀ty,(Instr.next (.pointer (some ⟨w.heap.size+1,0,none⟩)) true ty).run Tryz.prog wr=_:=fun ty=>Lib.run_next_end_at wr (w.heap.size+1) s pos ty hit hp
   have HN:Hq (V=acc):=hq (by rw[hv.o,safeR_end hp,List.append_nil])
   have HS:=hq (Tryz.Builder_String_any_k w.heap.size w.heap.size acc wr hbd.o (by omega))
   clear hv hbd
   go_wp2_with fail
   refine HS.o.mono ?_
   rintro e w4 ⟨rfl,_,h5,_⟩
   have hb6:Below w.heap.size w w4:=hb.trans h5
   clear h5 HS
   go_wp2_with fail
   go_ret
   exact⟨by rw[HN.o];rfl,hb6⟩
end Go.Proofs.YtkafjblfjdpdaaaGreatDoor
