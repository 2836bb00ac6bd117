/-
  WALKS: the document's own answers of layer 11: clean, Bare.
-/
import Derived.Test.YtkafjblfjdpdaaaGreatDoorYsI
import Derived.Test.YtkafjblfjdpdaaaGreatDoorYlB
import Derived.Test.YtkafjblfjdpdaaaGreatDoorQuoteW
import Derived.Test.YtkafjblfjdpdaaaGreatDoorRowU8
import Derived.BigQuiet
namespace Go.Proofs.YtkafjblfjdpdaaaGreatDoor
open Go.RowKit
set_option maxHeartbeats 1000000 in
set_option maxRecDepth 1000000 in
theorem rclean_any(s:ByteArray)(w:World)(hs:s.size≤1099511627776):
 Calls Tryz.prog 41 #[.string s] w fun e w'=>e= .returned (.bool ((valid s).2&&plainL s.data.toList))∧Below w.heap.size w w':=by
 have HVA:=hq (fun W=>rvalid_any s W (by unfold maxLen;omega))
 have HV:Hq (((valid s).2&&plainL s.data.toList)=((valid s).2&&plainP s 0)):=hq rfl
 generalize ((valid s).2&&plainL s.data.toList)=V at *
 generalize valid s=VV at *
 obtain⟨vp,vb⟩:=VV
 simp only at HV HVA
 have HB:=hq (Below.refl w.heap.size w)
 go_enter Tryz.func41,Tryz.ntmps41
 go_wp2_with fail
 refine(HVA.o _).mono ?_
 rintro e w1 ⟨rfl,rfl⟩
 clear HVA
 go_wp2_with fail
 go_loopw [5] (fun i wr=> ∃q:Nat,q≤s.size∧i= .int .i64 (q:Int)∧Hq (Below w.heap.size w wr)∧Hq (V=(vb&&plainP s q))) (fun i _=>s.size-(intOf i).toNat)
 case atStart=>exact⟨0,Nat.zero_le _,rfl,HB,HV⟩
 case round=>
  obtain⟨q,hq1,rfl,hb,hv⟩:=hrel
  clear HV HB
  by_cases h:q<s.size
  ·have y0:((s[q]'h).toNat:Int)=(byt s q:Int):=by rw[byt_eq s q h]
   by_cases h32:byt s q<32
   ·have HN:Hq (V=false):=hq (by rw[hv.o,plainP_bad h (.inl h32),Bool.and_false])
    have e1:(byt s q:Int)<32:=by omega
    clear hv h32
    generalize byt s q=c0 at *
    go_wp2_with fail
    go_ret
    exact⟨by rw[HN.o];rfl,hb.o⟩
   ·have e1: ¬(byt s q:Int)<32:=by omega
    by_cases h127:byt s q=127
    ·have HN:Hq (V=false):=hq (by rw[hv.o,plainP_bad h (.inr h127),Bool.and_false])
     have e2:((byt s q:Int)==127)=true:=beq_int_true h127
     clear hv h32 h127
     generalize byt s q=c0 at *
     go_wp2_with fail
     go_ret
     exact⟨by rw[HN.o];rfl,hb.o⟩
    ·have HN:Hq (V=(vb&&plainP s (q+1))):=hq (by rw[hv.o,plainI_step h h32 h127])
     have e2:((byt s q:Int)==127)=false:=beq_int_false h127
     clear hv h32 h127
     generalize byt s q=c0 at *
     go_wp2_with fail
     go_roundw
     case rel=>exact⟨q+1,by omega,int_eq (by omega),hb,HN⟩
     case measure=>(try simp[intOf]);omega
  ·have HN:Hq (V=vb):=hq (by rw[hv.o,plainP_end h,Bool.and_true])
   have h': ¬(q:Int)<(s.size:Int):=by omega
   clear hv h
   go_wp2_with fail
   go_ret
   exact⟨by rw[HN.o];rfl,hb.o⟩
theorem below_drewS {B:Nat} {a w:World} (h:Below B a w)(n:Nat):Below B a (w.drewN n):=⟨h.os,h.tape,h.output,h.size,h.block⟩
abbrev rsgn:ByteArray:=⟨#[63,58,44,91,93,123,125,35,38,42,33,124,62,39,34,37,64,96]⟩
theorem rsgn_hit: ∀k:Nat,k<18→signsL.contains (UInt8.ofNat (byt rsgn k))=true:=by decide+kernel
theorem rsgn_miss {c:Nat} (hc:c<256)(h32:c≠32)(h: ∀k,k<18→byt rsgn k≠c):signsL.contains (UInt8.ofNat c)=false:=by
 have key: ∀c:Nat,c<256→c≠32→(∀k:Fin 18,byt rsgn k.1≠c)→signsL.contains (UInt8.ofNat c)=false:=by decide+kernel
 exact key c hc h32 (fun k=>h k.1 k.2)
set_option maxHeartbeats 8000000 in
set_option maxRecDepth 1000000 in
theorem rbare_any(s:ByteArray)(w:World)(hs:s.size≤1099511627776):
 Calls Tryz.prog 16 #[.string s] w fun e w'=>e= .returned (.bool (bareL s.data.toList))∧Below w.heap.size w w':=by
 have HCL:=hq (fun W=>rclean_any s W hs)
 have HBY:Hq (bareL s.data.toList=((decide (0<s.size)&&((!signB s&&!dashB s)&&(decide (byt s (s.size-1)≠32∧byt s (s.size-1)≠58)&&midI s 0)))&&((valid s).2&&plainL s.data.toList))):=hq (by
  rw[bare_byt]
  show _=(_&&((valid s).2&&plainP s 0))
  cases (valid s).2<;>cases plainP s 0<;>simp)
 generalize bareL s.data.toList=V at *
 generalize ((valid s).2&&plainL s.data.toList)=CL at *
 have HFI:Hq (∀b W',V=b→Below w.heap.size w W'→(fun (e:Ending) (w':World)=>e= .returned (.bool V)∧Below w.heap.size w w') (.returned (.bool b)) W'):=hq (fun b W' h1 h2=>⟨by rw[h1],h2⟩)
 generalize (fun (e:Ending) (w':World)=>e= .returned (.bool V)∧Below w.heap.size w w')=PP at *
 go_enter Tryz.func16,Tryz.ntmps16
 go_wp2_with fail
 refine(HCL.o _).mono ?_
 rintro e w1 ⟨rfl,hb⟩
 have HB1:=hq hb
 clear HCL hb
 cases CL with
 |false=>
  have HV:=hq (HFI.o false w1 (by rw[HBY.o,Bool.and_false]) HB1.o)
  clear HFI HBY
  go_wp2_with fail
  first|exact HV.o|(go_ret;exact HV.o)
 |true=>
 have HBZ:Hq (V=(decide (0<s.size)&&((!signB s&&!dashB s)&&(decide (byt s (s.size-1)≠32∧byt s (s.size-1)≠58)&&midI s 0)))):=hq (by rw[HBY.o,Bool.and_true])
 clear HBY
 by_cases h0:s.size=0
 ·have HV:=hq (HFI.o false w1 (by rw[HBZ.o,decide_eq_false (by omega),Bool.false_and]) HB1.o)
  have e0:((s.size:Int)==0)=true:=by rw[h0];rfl
  clear HFI HBZ h0
  go_wp2_with fail
  first|exact HV.o|(go_ret;exact HV.o)
 have h0':0<s.size:=by omega
 have e0:((s.size:Int)==0)=false:=beq_int_false h0
 have y0:((s[0]'h0').toNat:Int)=(byt s 0:Int):=by rw[byt_eq s 0 h0']
 have hln:s.size-1<s.size:=by omega
 have yn:((s[s.size-1]'hln).toNat:Int)=(byt s (s.size-1):Int):=by rw[byt_eq s _ hln]
 have em:(s.size:Int)-1=((s.size-1:Nat):Int):=by omega
 have HB2:Hq (V=((!signB s&&!dashB s)&&(decide (byt s (s.size-1)≠32∧byt s (s.size-1)≠58)&&midI s 0))):=hq (by rw[HBZ.o,decide_eq_true h0',Bool.true_and])
 clear HBZ h0
 have l0:=byt_lt s 0
 by_cases h32:byt s 0=32
 ·have HV:=hq (HFI.o false w1 (by
   rw[HB2.o,show signB s=true by unfold signB;rw[h32];decide]
   rfl) HB1.o)
  have e1:((byt s 0:Int)==32)=true:=beq_int_true h32
  clear HFI HB2 h32
  generalize byt s 0=c0 at *
  go_wp2_with fail
  first|exact HV.o|(go_ret;exact HV.o)
 have e1:((byt s 0:Int)==32)=false:=beq_int_false h32
 by_cases g32:byt s (s.size-1)=32
 ·have HV:=hq (HFI.o false w1 (by rw[HB2.o,decide_eq_false (fun h=>h.1 g32),Bool.false_and,Bool.and_false]) HB1.o)
  have e2:((byt s (s.size-1):Int)==32)=true:=beq_int_true g32
  clear HFI HB2 h32 g32
  generalize byt s 0=c0 at *
  generalize byt s (s.size-1)=cn at *
  go_wp2_with fail
  first|exact HV.o|(go_ret;exact HV.o)
 have e2:((byt s (s.size-1):Int)==32)=false:=beq_int_false g32
 by_cases g58:byt s (s.size-1)=58
 ·have HV:=hq (HFI.o false w1 (by rw[HB2.o,decide_eq_false (fun h=>h.2 g58),Bool.false_and,Bool.and_false]) HB1.o)
  have e3:((byt s (s.size-1):Int)==58)=true:=beq_int_true g58
  clear HFI HB2 h32 g32 g58
  generalize byt s 0=c0 at *
  generalize byt s (s.size-1)=cn at *
  go_wp2_with fail
  first|exact HV.o|(go_ret;exact HV.o)
 have e3:((byt s (s.size-1):Int)==58)=false:=beq_int_false g58
 have HB3:Hq (V=((!signB s&&!dashB s)&&midI s 0)):=hq (by rw[HB2.o,decide_eq_true ⟨g32,g58⟩,Bool.true_and])
 have HSH:Hq (∀k,k<18→byt rsgn k=byt s 0→signB s=true):=hq (fun k hk e=>by unfold signB;rw[←e];exact rsgn_hit k hk)
 have HSM:Hq ((∀k,k<18→byt rsgn k≠byt s 0)→signB s=false):=hq (fun h=>rsgn_miss l0 h32 h)
 have HDB:Hq (dashB s=(decide (byt s 0=45)&&(decide (s.size=1)||decide (byt s 1=32)))):=hq rfl
 clear HB2 h32 g32 g58
 have hsz:rsgn.size=18:=rfl
 generalize signB s=SB at *
 generalize dashB s=DB at *
 generalize hc0:byt s 0=c0 at *
 generalize byt s (s.size-1)=cn at *
 go_wp2_with fail
 clear e1 e2 e3 yn
 go_loopw [6] (fun i wr=> ∃q:Nat,q≤18∧i= .int .i64 (q:Int)∧Hq (Below w.heap.size w wr)∧Hq (∀k,k<q→byt rsgn k≠c0)) (fun i _=>18-(intOf i).toNat)
 case atStart=>exact⟨0,Nat.zero_le _,rfl,HB1,hq (fun k hk=>absurd hk (by omega))⟩
 case round=>
  obtain⟨q,hq1,rfl,hb,hv⟩:=hrel
  clear HB1
  by_cases h:q<18
  ·have hqr:q<rsgn.size:=by rw[hsz];exact h
   have y1:((rsgn[q]'hqr).toNat:Int)=(byt rsgn q:Int):=by rw[byt_eq rsgn q hqr]
   have h':(q:Int)<18:=by omega
   by_cases hh:byt rsgn q=c0
   ·have HV:=hq (fun n=>HFI.o false (wr.drewN n) (by rw[HB3.o,HSH.o q h hh];rfl) (below_drewS hb.o n))
    have e1:((c0:Int)==(byt rsgn q:Int))=true:=by rw[hh];exact beq_self_eq_true _
    clear HFI HB3 HSH HSM hv hh
    generalize byt rsgn q=d0 at *
    go_wp2_with fail
    go_quiet (fail)
    go_wp2_with fail
    first|exact HV.o _|(go_ret;exact HV.o _)
   ·have e1:((c0:Int)==(byt rsgn q:Int))=false:=beq_int_false (fun e=>hh e.symm)
    have HN:Hq (∀k,k<q+1→byt rsgn k≠c0):=hq (fun k hk=>by
     by_cases e:k=q
     ·rw[e];exact hh
     ·exact hv.o k (by omega))
    clear hv hh
    generalize byt rsgn q=d0 at y1 e1
    go_wp2_with fail
    go_quiet (fail)
    go_wp2_with fail
    go_roundw
    case rel=>exact⟨q+1,by omega,int_eq (by omega),hq (below_drewS hb.o _),HN⟩
    case measure=>(try simp[intOf]);omega
  ·have h': ¬(q:Int)<18:=by omega
   have HB4:Hq (V=(!DB&&midI s 0)):=hq (by rw[HB3.o,HSM.o (fun k hk=>hv.o k (by omega))];rfl)
   clear HB3 HSH HSM hv h
   by_cases d1:c0=45
   case pos=>
    have e1:((c0:Int)==45)=true:=by rw[d1];rfl
    by_cases d2:s.size=1
    ·have HV:=hq (HFI.o false wr (by rw[HB4.o,HDB.o,decide_eq_true d1,decide_eq_true d2];rfl) hb.o)
     have e2:((s.size:Int)==1)=true:=by rw[d2];rfl
     clear HFI HB4 HDB d1
     go_wp2_with fail
     first|exact HV.o|(go_ret;exact HV.o)
    ·have e2:((s.size:Int)==1)=false:=beq_int_false d2
     have h1:1<s.size:=by omega
     have y2:((s[1]'h1).toNat:Int)=(byt s 1:Int):=by rw[byt_eq s 1 h1]
     by_cases d3:byt s 1=32
     ·have HV:=hq (HFI.o false wr (by rw[HB4.o,HDB.o,decide_eq_true d1,decide_eq_true d3,Bool.or_true];rfl) hb.o)
      have e3:((byt s 1:Int)==32)=true:=beq_int_true d3
      clear HFI HB4 HDB d1 d3
      generalize byt s 1=c1 at *
      go_wp2_with fail
      first|exact HV.o|(go_ret;exact HV.o)
     ·have HM:Hq (V=midI s 0):=hq (by rw[HB4.o,HDB.o,decide_eq_false d2,decide_eq_false d3];simp)
      have e3:((byt s 1:Int)==32)=false:=beq_int_false d3
      clear HB4 HDB d1 d3
      generalize byt s 1=c1 at *
      go_wp2_with fail
      clear y2 e3 y0 hc0
      go_loopw [7] (fun i wr=> ∃q:Nat,q<s.size∧i= .int .i64 (q:Int)∧Hq (Below w.heap.size w wr)∧Hq (V=midI s q)) (fun i _=>s.size-(intOf i).toNat)
      case atStart=>exact⟨0,h0',rfl,hb,HM⟩
      case round=>
       obtain⟨q,hq1,rfl,hb,hv⟩:=hrel
       clear HM
       by_cases h:q+1<s.size
       ·have y0:((s[q]'hq1).toNat:Int)=(byt s q:Int):=by rw[byt_eq s q hq1]
        have y1:((s[q+1]'h).toNat:Int)=(byt s (q+1):Int):=by rw[byt_eq s (q+1) h]
        have h':(q:Int)+1<(s.size:Int):=by omega
        by_cases a58:byt s q=58
        ·have e1:((byt s q:Int)==58)=true:=beq_int_true a58
         have e2:((byt s q:Int)==32)=false:=beq_eq_false_iff_ne.2 (by omega)
         by_cases b32:byt s (q+1)=32
         ·have HV:=hq (HFI.o false _ (by rw[hv.o,midI_bad h (.inl ⟨a58,b32⟩)]) hb.o)
          have e3:((byt s (q+1):Int)==32)=true:=beq_int_true b32
          clear HFI hv a58 b32
          generalize byt s q=ca at *
          generalize byt s (q+1)=cb at *
          go_wp2_with fail
          first|exact HV.o|(go_ret;exact HV.o)
         ·have HN:Hq (V=midI s (q+1)):=hq (by rw[hv.o,midI_step h (by omega)])
          have e3:((byt s (q+1):Int)==32)=false:=beq_int_false b32
          clear HFI hv a58 b32
          generalize byt s q=ca at *
          generalize byt s (q+1)=cb at *
          go_wp2_with fail
          go_roundw
          case rel=>exact⟨q+1,h,int_eq (by omega),hb,HN⟩
          case measure=>(try simp[intOf]);omega
        ·have e1:((byt s q:Int)==58)=false:=beq_int_false a58
         by_cases a32:byt s q=32
         ·have e2:((byt s q:Int)==32)=true:=beq_int_true a32
          by_cases b35:byt s (q+1)=35
          ·have HV:=hq (HFI.o false _ (by rw[hv.o,midI_bad h (.inr ⟨a32,b35⟩)]) hb.o)
           have e3:((byt s (q+1):Int)==35)=true:=beq_int_true b35
           clear HFI hv a58 a32 b35
           generalize byt s q=ca at *
           generalize byt s (q+1)=cb at *
           go_wp2_with fail
           first|exact HV.o|(go_ret;exact HV.o)
          ·have HN:Hq (V=midI s (q+1)):=hq (by rw[hv.o,midI_step h (by omega)])
           have e3:((byt s (q+1):Int)==35)=false:=beq_int_false b35
           clear HFI hv a58 a32 b35
           generalize byt s q=ca at *
           generalize byt s (q+1)=cb at *
           go_wp2_with fail
           go_roundw
           case rel=>exact⟨q+1,h,int_eq (by omega),hb,HN⟩
           case measure=>(try simp[intOf]);omega
         ·have e2:((byt s q:Int)==32)=false:=beq_int_false a32
          have HN:Hq (V=midI s (q+1)):=hq (by rw[hv.o,midI_step h (by omega)])
          clear HFI hv a58 a32
          generalize byt s q=ca at *
          generalize byt s (q+1)=cb at *
          go_wp2_with fail
          go_roundw
          case rel=>exact⟨q+1,h,int_eq (by omega),hb,HN⟩
          case measure=>(try simp[intOf]);omega
       ·have HV:=hq (HFI.o true _ (by rw[hv.o,midI_end h]) hb.o)
        have h': ¬(q:Int)+1<(s.size:Int):=by omega
        clear HFI hv h
        go_wp2_with fail
        first|exact HV.o|(go_ret;exact HV.o)
   case neg=>
    have e1:((c0:Int)==45)=false:=beq_int_false d1
    have HM:Hq (V=midI s 0):=hq (by rw[HB4.o,HDB.o,decide_eq_false d1];simp)
    clear HB4 HDB d1
    go_wp2_with fail
    clear y0 hc0
    go_loopw [7] (fun i wr=> ∃q:Nat,q<s.size∧i= .int .i64 (q:Int)∧Hq (Below w.heap.size w wr)∧Hq (V=midI s q)) (fun i _=>s.size-(intOf i).toNat)
    case atStart=>exact⟨0,h0',rfl,hb,HM⟩
    case round=>
     obtain⟨q,hq1,rfl,hb,hv⟩:=hrel
     clear HM
     by_cases h:q+1<s.size
     ·have y0:((s[q]'hq1).toNat:Int)=(byt s q:Int):=by rw[byt_eq s q hq1]
      have y1:((s[q+1]'h).toNat:Int)=(byt s (q+1):Int):=by rw[byt_eq s (q+1) h]
      have h':(q:Int)+1<(s.size:Int):=by omega
      by_cases a58:byt s q=58
      ·have e1:((byt s q:Int)==58)=true:=beq_int_true a58
       have e2:((byt s q:Int)==32)=false:=beq_eq_false_iff_ne.2 (by omega)
       by_cases b32:byt s (q+1)=32
       ·have HV:=hq (HFI.o false _ (by rw[hv.o,midI_bad h (.inl ⟨a58,b32⟩)]) hb.o)
        have e3:((byt s (q+1):Int)==32)=true:=beq_int_true b32
        clear HFI hv a58 b32
        generalize byt s q=ca at *
        generalize byt s (q+1)=cb at *
        go_wp2_with fail
        first|exact HV.o|(go_ret;exact HV.o)
       ·have HN:Hq (V=midI s (q+1)):=hq (by rw[hv.o,midI_step h (by omega)])
        have e3:((byt s (q+1):Int)==32)=false:=beq_int_false b32
        clear HFI hv a58 b32
        generalize byt s q=ca at *
        generalize byt s (q+1)=cb at *
        go_wp2_with fail
        go_roundw
        case rel=>exact⟨q+1,h,int_eq (by omega),hb,HN⟩
        case measure=>(try simp[intOf]);omega
      ·have e1:((byt s q:Int)==58)=false:=beq_int_false a58
       by_cases a32:byt s q=32
       ·have e2:((byt s q:Int)==32)=true:=beq_int_true a32
        by_cases b35:byt s (q+1)=35
        ·have HV:=hq (HFI.o false _ (by rw[hv.o,midI_bad h (.inr ⟨a32,b35⟩)]) hb.o)
         have e3:((byt s (q+1):Int)==35)=true:=beq_int_true b35
         clear HFI hv a58 a32 b35
         generalize byt s q=ca at *
         generalize byt s (q+1)=cb at *
         go_wp2_with fail
         first|exact HV.o|(go_ret;exact HV.o)
        ·have HN:Hq (V=midI s (q+1)):=hq (by rw[hv.o,midI_step h (by omega)])
         have e3:((byt s (q+1):Int)==35)=false:=beq_int_false b35
         clear HFI hv a58 a32 b35
         generalize byt s q=ca at *
         generalize byt s (q+1)=cb at *
         go_wp2_with fail
         go_roundw
         case rel=>exact⟨q+1,h,int_eq (by omega),hb,HN⟩
         case measure=>(try simp[intOf]);omega
       ·have e2:((byt s q:Int)==32)=false:=beq_int_false a32
        have HN:Hq (V=midI s (q+1)):=hq (by rw[hv.o,midI_step h (by omega)])
        clear HFI hv a58 a32
        generalize byt s q=ca at *
        generalize byt s (q+1)=cb at *
        go_wp2_with fail
        go_roundw
        case rel=>exact⟨q+1,h,int_eq (by omega),hb,HN⟩
        case measure=>(try simp[intOf]);omega
     ·have HV:=hq (HFI.o true _ (by rw[hv.o,midI_end h]) hb.o)
      have h': ¬(q:Int)+1<(s.size:Int):=by omega
      clear HFI hv h
      go_wp2_with fail
      first|exact HV.o|(go_ret;exact HV.o)
end Go.Proofs.YtkafjblfjdpdaaaGreatDoor
