/-
  WALK: the law YscalarBack.
  PLAIN MATHEMATICS: what is read in a line is in range.
  A ROW OF BYTES that the call makes by append, and its way back to a text.
  WALKS: the document's own answers of layer 11: clean, Bare.
-/
import Derived.Test.YtkafjblfjdpdaaaGreatDoorYsP
set_option maxHeartbeats 8000000
set_option maxRecDepth 1000000
namespace Go.Proofs.YtkafjblfjdpdaaaGreatDoor
open Go.RowKit
theorem rdOf_one {l:Bs} {u v:Vl} {a b:Int} (h1:RdOf l u a)(h2:RdOf l v b):u=v/\a=b:=by
 cases l with
 |nil=>exact⟨h1.1.trans h2.1.symm,h1.2.trans h2.2.symm⟩
 |cons c r=>
  unfold RdOf at h1 h2;simp only at h1 h2;split at h1
  ·rename_i hc;rw[if_pos hc]at h2;exact⟨h1.2.trans h2.2.symm,h1.1.trans h2.1.symm⟩
  ·rename_i hc;rw[if_neg hc]at h2;split at h1
   ·rename_i hd;rw[if_pos hd]at h2;cases hp:zc2 (st (c::r)) with
    |inl q=>
     rw[hp]at h1 h2;exact⟨h1.1.trans h2.1.symm,h1.2.trans h2.2.symm⟩
    |inr ns=>
     rw[hp]at h1 h2;exact⟨(h1.2.one h2.2).1,h1.1.trans h2.1.symm⟩
   ·rename_i hd;rw[if_neg hd]at h2;split at h1
    ·rename_i hb;rw[if_pos hb]at h2;exact⟨h1.1.trans h2.1.symm,h1.2.trans h2.2.symm⟩
    ·rename_i hb;rw[if_neg hb]at h2;exact⟨h1.1.trans h2.1.symm,h1.2.trans h2.2.symm⟩
theorem zp2 {k:Int} {t:Bs} (hk:-9223372036854775808<=k/\k<=9223372036854775807)(ht:t.length<=maxLen):(Vl.mk k t [] []).All Vl.Rng:= .mk _ _ _ _ ⟨hk,ht,fun y hy=>by cases hy⟩ (fun x hx=>by cases hx)
theorem zw8(l:Bs)(hl:l.length<=4096):(zc3 l).All Vl.Rng:=by
 rcases zn2 l with ⟨_,h⟩|⟨_,_,_,_,h⟩|⟨_,_,_,_,_,⟨h1,h⟩|⟨_,h⟩⟩
 ·rw[h];exact zp2 (by decide) (by decide)
 ·rw[h];exact zp2 (by decide) (by unfold maxLen;omega)
 ·rw[h];refine zp2 (by decide) ?_;have hpr:=zg7 (l:=l) (m:=(zb3 l).1) (by rw[←h1]);have hbd:=zm2 (n:=(zb3 l).1.neg) (D:=(zb3 l).1.digits) (E:=(zb3 l).1.exp) hpr;have:=zK4 (zb3 l).1 ⟨by omega,by omega⟩;unfold maxLen;omega
 ·rw[h];exact zp2 (by decide) (by unfold maxLen;omega)
theorem zE9(s:ByteArray): ∀f q acc,q<=s.size->(zk5 s f q acc).1.length<=acc.length+(s.size-q)
 |0,q,acc,_=>Nat.zero_le _
 |f+1,q,acc,h=>by
  by_cases hq':q<s.size
  ·by_cases h39:byt s q=39
   ·by_cases h2:q+1<s.size/\byt s (q+1)=39
    ·rw[zE8 hq' h39 h2.1 h2.2];have:=zE9 s f (q+2) (acc++[39]) (by omega);rw[List.length_append,List.length_singleton]at this;omega
    ·rw[zD4 hq' h39 h2];show acc.length<=_;omega
   ·by_cases hb:bad s q\/byt s q<32
    ·rw[zs7 hq' h39 hb];exact Nat.zero_le _
    ·rw[zu1 hq' h39 hb];have hw:=zp8 s q hq';have:=zE9 s f (q+wd s q) (acc++zd2 s q) hw;rw[List.length_append,zi9 s q hq']at this;omega
  ·rw[zx9 hq'];exact Nat.zero_le _
theorem quot_lenY(l:Bs):(zj4 l).1.length<=4*l.length:=by
 unfold zj4;have hz:=za8 l;split
 ·have:=zN1 (st l);show(zb4 (st l)).1.length<=_;omega
 ·split
  ·show (sglM (st l) 0).1.length<=_;unfold sglM;rw[if_neg (by omega)];split
   ·exact Nat.zero_le _
   ·rename_i h;have:=zE9 (st l) (st l).size ((0:Int).toNat+1) [] (by
     have:(0:Int).toNat=0:=rfl;rw[this]at h ⊢;have:0≠(st l).size:=fun e=>h (.inl e)
     omega)
    have h0:([]:Bs).length=0:=rfl;omega
  ·exact Nat.zero_le _
theorem rd_rngY {l:Bs} {v:Vl} {er:Int} (h:RdOf l v er)(hl:l.length<=4096):v.All Vl.Rng:=by
 cases l with
 |nil=>rw[h.1];exact zw8 [] (by decide)
 |cons c r=>
  unfold RdOf at h;simp only at h;split at h
  ·rw[h.2];split
   ·refine zp2 (by decide) ?_;have:=quot_lenY (c::r);unfold maxLen;omega
   ·exact zp2 (by decide) (by decide)
  ·split at h
   ·cases hp:zc2 (st (c::r)) with
    |inl q=>rw[hp]at h;rw[h.1];exact zp2 (by decide) (by decide)
    |inr ns=>
     rw[hp]at h;exact h.2.rng (by rw[za8];omega)
   ·split at h
    ·rw[h.1];exact zw8 _ hl
    ·rw[h.1];exact zp2 (by decide) (by decide)
def RowIs(w:World)(base:Nat)(v:Value)(l:Bs):Prop:=w.ownsRow base 5 1 v l.length (Lib.byteCells l)
theorem RowIs.alloc {w:World} {base:Nat} {v:Value} {l:Bs} (h:RowIs w base v l)(o:Obj):RowIs (w.alloc o) base v l:=World.ownsRow.alloc h o
theorem rclean_any(s:ByteArray)(w:World)(hs:s.size<=1099511627776):
 Calls Tryz.prog 41 #[.string s] w fun e w'=>e= .returned (.bool ((valid s).2&&zf8 s.data.toList))/\Below w.heap.size w w':=by
 have HVA:=hq (fun W=>rvalid_any s W (by unfold maxLen;omega));have HV:Hq (((valid s).2&&zf8 s.data.toList)=((valid s).2&&zl0 s 0)):=hq rfl;generalize ((valid s).2&&zf8 s.data.toList)=V at *;generalize valid s=VV at *;obtain⟨vp,vb⟩:=VV;simp only at HV HVA;have HB:=hq (Below.refl w.heap.size w);go_enter Tryz.func41,Tryz.ntmps41
 go_wp2_with fail
 refine(HVA.o _).mono ?_;rintro e w1 ⟨rfl,rfl⟩;clear HVA;go_wp2_with fail
 go_loopw [5] (fun i wr=> ∃q:Nat,q<=s.size/\i= .int .i64 (q:Int)/\Hq (Below w.heap.size w wr)/\Hq (V=(vb&&zl0 s q))) (fun i _=>s.size-(intOf i).toNat)
 case atStart=>exact⟨0,Nat.zero_le _,rfl,HB,HV⟩
 case round=>
  obtain⟨q,hq1,rfl,hb,hv⟩:=hrel;clear HV HB;by_cases h:q<s.size
  ·have y0:((s[q]'h).toNat:Int)=(byt s q:Int):=by rw[zb6 s q h]
   by_cases h32:byt s q<32
   ·have HN:Hq (V=false):=hq (by rw[hv.o,zu8 h (.inl h32),Bool.and_false]);have e1:(byt s q:Int)<32:=by omega
    clear hv h32;generalize byt s q=c0 at *;go_wp2_with fail
    go_ret
    exact⟨by rw[HN.o];rfl,hb.o⟩
   ·have e1: ¬(byt s q:Int)<32:=by omega
    by_cases h127:byt s q=127
    ·have HN:Hq (V=false):=hq (by rw[hv.o,zu8 h (.inr h127),Bool.and_false]);have e2:((byt s q:Int)==127)=true:=zc0 h127;clear hv h32 h127;generalize byt s q=c0 at *;go_wp2_with fail
     go_ret
     exact⟨by rw[HN.o];rfl,hb.o⟩
    ·have HN:Hq (V=(vb&&zl0 s (q+1))):=hq (by rw[hv.o,plainI_step h h32 h127]);have e2:((byt s q:Int)==127)=false:=zb h127;clear hv h32 h127;generalize byt s q=c0 at *;go_wp2_with fail
     go_roundw
     case rel=>exact⟨q+1,by omega,zb5 (by omega),hb,HN⟩
     case measure=>(try simp[intOf]);omega
  ·have HN:Hq (V=vb):=hq (by rw[hv.o,zL4 h,Bool.and_true]);have h': ¬(q:Int)<(s.size:Int):=by omega
   clear hv h;go_wp2_with fail
   go_ret
   exact⟨by rw[HN.o];rfl,hb.o⟩
theorem zI5 {B:Nat} {a w:World} (h:Below B a w)(n:Nat):Below B a (w.drewN n):=⟨h.os,h.tape,h.output,h.size,h.block⟩
abbrev rsgn:ByteArray:=⟨#[63,58,44,91,93,123,125,35,38,42,33,124,62,39,34,37,64,96]⟩
theorem rsgn_hit: ∀k:Nat,k<18->signsL.contains (UInt8.ofNat (byt rsgn k))=true:=by decide+kernel
theorem rsgn_miss {c:Nat} (hc:c<256)(h32:c≠32)(h: ∀k,k<18->byt rsgn k≠c):signsL.contains (UInt8.ofNat c)=false:=by
 have key: ∀c:Nat,c<256->c≠32->(∀k:Fin 18,byt rsgn k.1≠c)->signsL.contains (UInt8.ofNat c)=false:=by decide+kernel
 exact key c hc h32 (fun k=>h k.1 k.2)
theorem zG4(s:ByteArray)(w:World)(hs:s.size<=1099511627776):
 Calls Tryz.prog 16 #[.string s] w fun e w'=>e= .returned (.bool (zh9 s.data.toList))/\Below w.heap.size w w':=by
 have HCL:=hq (fun W=>rclean_any s W hs);have HBY:Hq (zh9 s.data.toList=((decide (0<s.size)&&((!zv4 s&&!zx1 s)&&(decide (byt s (s.size-1)≠32/\byt s (s.size-1)≠58)&&midI s 0)))&&((valid s).2&&zf8 s.data.toList))):=hq (by
  rw[bare_byt];show _=(_&&((valid s).2&&zl0 s 0));cases (valid s).2<;>cases zl0 s 0<;>simp)
 generalize zh9 s.data.toList=V at *;generalize ((valid s).2&&zf8 s.data.toList)=CL at *;have HFI:Hq (∀b W',V=b->Below w.heap.size w W'->(fun (e:Ending) (w':World)=>e= .returned (.bool V)/\Below w.heap.size w w') (.returned (.bool b)) W'):=hq (fun b W' h1 h2=>⟨by rw[h1],h2⟩);generalize (fun (e:Ending) (w':World)=>e= .returned (.bool V)/\Below w.heap.size w w')=PP at *;go_enter Tryz.func16,Tryz.ntmps16
 go_wp2_with fail
 refine(HCL.o _).mono ?_;rintro e w1 ⟨rfl,hb⟩;have HB1:=hq hb;clear HCL hb;cases CL with
 |false=>
  have HV:=hq (HFI.o false w1 (by rw[HBY.o,Bool.and_false]) HB1.o);clear HFI HBY;go_wp2_with fail
  first|exact HV.o|(go_ret;exact HV.o)
 |true=>
 have HBZ:Hq (V=(decide (0<s.size)&&((!zv4 s&&!zx1 s)&&(decide (byt s (s.size-1)≠32/\byt s (s.size-1)≠58)&&midI s 0)))):=hq (by rw[HBY.o,Bool.and_true]);clear HBY;by_cases h0:s.size=0
 ·have HV:=hq (HFI.o false w1 (by rw[HBZ.o,decide_eq_false (by omega),Bool.false_and]) HB1.o);have e0:((s.size:Int)==0)=true:=by rw[h0];rfl
  clear HFI HBZ h0;go_wp2_with fail
  first|exact HV.o|(go_ret;exact HV.o)
 have h0':0<s.size:=by omega
 have e0:((s.size:Int)==0)=false:=zb h0;have y0:((s[0]'h0').toNat:Int)=(byt s 0:Int):=by rw[zb6 s 0 h0']
 have hln:s.size-1<s.size:=by omega
 have yn:((s[s.size-1]'hln).toNat:Int)=(byt s (s.size-1):Int):=by rw[zb6 s _ hln]
 have em:(s.size:Int)-1=((s.size-1:Nat):Int):=by omega
 have HB2:Hq (V=((!zv4 s&&!zx1 s)&&(decide (byt s (s.size-1)≠32/\byt s (s.size-1)≠58)&&midI s 0))):=hq (by rw[HBZ.o,decide_eq_true h0',Bool.true_and]);clear HBZ h0;have l0:=zd3 s 0;by_cases h32:byt s 0=32
 ·have HV:=hq (HFI.o false w1 (by
   rw[HB2.o,show zv4 s=true by unfold zv4;rw[h32];decide];rfl) HB1.o)
  have e1:((byt s 0:Int)==32)=true:=zc0 h32;clear HFI HB2 h32;generalize byt s 0=c0 at *;go_wp2_with fail
  first|exact HV.o|(go_ret;exact HV.o)
 have e1:((byt s 0:Int)==32)=false:=zb h32;by_cases g32:byt s (s.size-1)=32
 ·have HV:=hq (HFI.o false w1 (by rw[HB2.o,decide_eq_false (fun h=>h.1 g32),Bool.false_and,Bool.and_false]) HB1.o);have e2:((byt s (s.size-1):Int)==32)=true:=zc0 g32;clear HFI HB2 h32 g32;generalize byt s 0=c0 at *;generalize byt s (s.size-1)=cn at *;go_wp2_with fail
  first|exact HV.o|(go_ret;exact HV.o)
 have e2:((byt s (s.size-1):Int)==32)=false:=zb g32;by_cases g58:byt s (s.size-1)=58
 ·have HV:=hq (HFI.o false w1 (by rw[HB2.o,decide_eq_false (fun h=>h.2 g58),Bool.false_and,Bool.and_false]) HB1.o);have e3:((byt s (s.size-1):Int)==58)=true:=zc0 g58;clear HFI HB2 h32 g32 g58;generalize byt s 0=c0 at *;generalize byt s (s.size-1)=cn at *;go_wp2_with fail
  first|exact HV.o|(go_ret;exact HV.o)
 have e3:((byt s (s.size-1):Int)==58)=false:=zb g58;have HB3:Hq (V=((!zv4 s&&!zx1 s)&&midI s 0)):=hq (by rw[HB2.o,decide_eq_true ⟨g32,g58⟩,Bool.true_and]);have HSH:Hq (∀k,k<18->byt rsgn k=byt s 0->zv4 s=true):=hq (fun k hk e=>by unfold zv4;rw[←e];exact rsgn_hit k hk);have HSM:Hq ((∀k,k<18->byt rsgn k≠byt s 0)->zv4 s=false):=hq (fun h=>rsgn_miss l0 h32 h);have HDB:Hq (zx1 s=(decide (byt s 0=45)&&(decide (s.size=1)||decide (byt s 1=32)))):=hq rfl;clear HB2 h32 g32 g58;have hsz:rsgn.size=18:=rfl;generalize zv4 s=SB at *;generalize zx1 s=DB at *;generalize hc0:byt s 0=c0 at *;generalize byt s (s.size-1)=cn at *;go_wp2_with fail
 clear e1 e2 e3 yn
 go_loopw [6] (fun i wr=> ∃q:Nat,q<=18/\i= .int .i64 (q:Int)/\Hq (Below w.heap.size w wr)/\Hq (∀k,k<q->byt rsgn k≠c0)) (fun i _=>18-(intOf i).toNat)
 case atStart=>exact⟨0,Nat.zero_le _,rfl,HB1,hq (fun k hk=>absurd hk (by omega))⟩
 case round=>
  obtain⟨q,hq1,rfl,hb,hv⟩:=hrel;clear HB1;by_cases h:q<18
  ·have hqr:q<rsgn.size:=by rw[hsz];exact h
   have y1:((rsgn[q]'hqr).toNat:Int)=(byt rsgn q:Int):=by rw[zb6 rsgn q hqr]
   have h':(q:Int)<18:=by omega
   by_cases hh:byt rsgn q=c0
   ·have HV:=hq (fun n=>HFI.o false (wr.drewN n) (by rw[HB3.o,HSH.o q h hh];rfl) (zI5 hb.o n));have e1:((c0:Int)==(byt rsgn q:Int))=true:=by rw[hh];exact beq_self_eq_true _
    clear HFI HB3 HSH HSM hv hh;generalize byt rsgn q=d0 at *;go_wp2_with fail
    go_quiet (fail)
    go_wp2_with fail
    first|exact HV.o _|(go_ret;exact HV.o _)
   ·have e1:((c0:Int)==(byt rsgn q:Int))=false:=zb (fun e=>hh e.symm);have HN:Hq (∀k,k<q+1->byt rsgn k≠c0):=hq (fun k hk=>by
     by_cases e:k=q
     ·rw[e];exact hh
     ·exact hv.o k (by omega))
    clear hv hh;generalize byt rsgn q=d0 at y1 e1;go_wp2_with fail
    go_quiet (fail)
    go_wp2_with fail
    go_roundw
    case rel=>exact⟨q+1,by omega,zb5 (by omega),hq (zI5 hb.o _),HN⟩
    case measure=>(try simp[intOf]);omega
  ·have h': ¬(q:Int)<18:=by omega
   have HB4:Hq (V=(!DB&&midI s 0)):=hq (by rw[HB3.o,HSM.o (fun k hk=>hv.o k (by omega))];rfl);clear HB3 HSH HSM hv h;by_cases d1:c0=45
   case pos=>
    have e1:((c0:Int)==45)=true:=by rw[d1];rfl
    by_cases d2:s.size=1
    ·have HV:=hq (HFI.o false wr (by rw[HB4.o,HDB.o,decide_eq_true d1,decide_eq_true d2];rfl) hb.o);have e2:((s.size:Int)==1)=true:=by rw[d2];rfl
     clear HFI HB4 HDB d1;go_wp2_with fail
     first|exact HV.o|(go_ret;exact HV.o)
    ·have e2:((s.size:Int)==1)=false:=zb d2;have h1:1<s.size:=by omega
     have y2:((s[1]'h1).toNat:Int)=(byt s 1:Int):=by rw[zb6 s 1 h1]
     by_cases d3:byt s 1=32
     ·have HV:=hq (HFI.o false wr (by rw[HB4.o,HDB.o,decide_eq_true d1,decide_eq_true d3,Bool.or_true];rfl) hb.o);have e3:((byt s 1:Int)==32)=true:=zc0 d3;clear HFI HB4 HDB d1 d3;generalize byt s 1=c1 at *;go_wp2_with fail
      first|exact HV.o|(go_ret;exact HV.o)
     ·have HM:Hq (V=midI s 0):=hq (by rw[HB4.o,HDB.o,decide_eq_false d2,decide_eq_false d3];simp);have e3:((byt s 1:Int)==32)=false:=zb d3;clear HB4 HDB d1 d3;generalize byt s 1=c1 at *;go_wp2_with fail
      clear y2 e3 y0 hc0
      go_loopw [7] (fun i wr=> ∃q:Nat,q<s.size/\i= .int .i64 (q:Int)/\Hq (Below w.heap.size w wr)/\Hq (V=midI s q)) (fun i _=>s.size-(intOf i).toNat)
      case atStart=>exact⟨0,h0',rfl,hb,HM⟩
      case round=>
       obtain⟨q,hq1,rfl,hb,hv⟩:=hrel;clear HM;by_cases h:q+1<s.size
       ·have y0:((s[q]'hq1).toNat:Int)=(byt s q:Int):=by rw[zb6 s q hq1]
        have y1:((s[q+1]'h).toNat:Int)=(byt s (q+1):Int):=by rw[zb6 s (q+1) h]
        have h':(q:Int)+1<(s.size:Int):=by omega
        by_cases a58:byt s q=58
        ·have e1:((byt s q:Int)==58)=true:=zc0 a58;have e2:((byt s q:Int)==32)=false:=beq_eq_false_iff_ne.2 (by omega);by_cases b32:byt s (q+1)=32
         ·have HV:=hq (HFI.o false _ (by rw[hv.o,zD6 h (.inl ⟨a58,b32⟩)]) hb.o);have e3:((byt s (q+1):Int)==32)=true:=zc0 b32;clear HFI hv a58 b32;generalize byt s q=ca at *;generalize byt s (q+1)=cb at *;go_wp2_with fail
          first|exact HV.o|(go_ret;exact HV.o)
         ·have HN:Hq (V=midI s (q+1)):=hq (by rw[hv.o,zq2 h (by omega)]);have e3:((byt s (q+1):Int)==32)=false:=zb b32;clear HFI hv a58 b32;generalize byt s q=ca at *;generalize byt s (q+1)=cb at *;go_wp2_with fail
          go_roundw
          case rel=>exact⟨q+1,h,zb5 (by omega),hb,HN⟩
          case measure=>(try simp[intOf]);omega
        ·have e1:((byt s q:Int)==58)=false:=zb a58;by_cases a32:byt s q=32
         ·have e2:((byt s q:Int)==32)=true:=zc0 a32;by_cases b35:byt s (q+1)=35
          ·have HV:=hq (HFI.o false _ (by rw[hv.o,zD6 h (.inr ⟨a32,b35⟩)]) hb.o);have e3:((byt s (q+1):Int)==35)=true:=zc0 b35;clear HFI hv a58 a32 b35;generalize byt s q=ca at *;generalize byt s (q+1)=cb at *;go_wp2_with fail
           first|exact HV.o|(go_ret;exact HV.o)
          ·have HN:Hq (V=midI s (q+1)):=hq (by rw[hv.o,zq2 h (by omega)]);have e3:((byt s (q+1):Int)==35)=false:=zb b35;clear HFI hv a58 a32 b35;generalize byt s q=ca at *;generalize byt s (q+1)=cb at *;go_wp2_with fail
           go_roundw
           case rel=>exact⟨q+1,h,zb5 (by omega),hb,HN⟩
           case measure=>(try simp[intOf]);omega
         ·have e2:((byt s q:Int)==32)=false:=zb a32;have HN:Hq (V=midI s (q+1)):=hq (by rw[hv.o,zq2 h (by omega)]);clear HFI hv a58 a32;generalize byt s q=ca at *;generalize byt s (q+1)=cb at *;go_wp2_with fail
          go_roundw
          case rel=>exact⟨q+1,h,zb5 (by omega),hb,HN⟩
          case measure=>(try simp[intOf]);omega
       ·have HV:=hq (HFI.o true _ (by rw[hv.o,midI_end h]) hb.o);have h': ¬(q:Int)+1<(s.size:Int):=by omega
        clear HFI hv h;go_wp2_with fail
        first|exact HV.o|(go_ret;exact HV.o)
   case neg=>
    have e1:((c0:Int)==45)=false:=zb d1;have HM:Hq (V=midI s 0):=hq (by rw[HB4.o,HDB.o,decide_eq_false d1];simp);clear HB4 HDB d1;go_wp2_with fail
    clear y0 hc0
    go_loopw [7] (fun i wr=> ∃q:Nat,q<s.size/\i= .int .i64 (q:Int)/\Hq (Below w.heap.size w wr)/\Hq (V=midI s q)) (fun i _=>s.size-(intOf i).toNat)
    case atStart=>exact⟨0,h0',rfl,hb,HM⟩
    case round=>
     obtain⟨q,hq1,rfl,hb,hv⟩:=hrel;clear HM;by_cases h:q+1<s.size
     ·have y0:((s[q]'hq1).toNat:Int)=(byt s q:Int):=by rw[zb6 s q hq1]
      have y1:((s[q+1]'h).toNat:Int)=(byt s (q+1):Int):=by rw[zb6 s (q+1) h]
      have h':(q:Int)+1<(s.size:Int):=by omega
      by_cases a58:byt s q=58
      ·have e1:((byt s q:Int)==58)=true:=zc0 a58;have e2:((byt s q:Int)==32)=false:=beq_eq_false_iff_ne.2 (by omega);by_cases b32:byt s (q+1)=32
       ·have HV:=hq (HFI.o false _ (by rw[hv.o,zD6 h (.inl ⟨a58,b32⟩)]) hb.o);have e3:((byt s (q+1):Int)==32)=true:=zc0 b32;clear HFI hv a58 b32;generalize byt s q=ca at *;generalize byt s (q+1)=cb at *;go_wp2_with fail
        first|exact HV.o|(go_ret;exact HV.o)
       ·have HN:Hq (V=midI s (q+1)):=hq (by rw[hv.o,zq2 h (by omega)]);have e3:((byt s (q+1):Int)==32)=false:=zb b32;clear HFI hv a58 b32;generalize byt s q=ca at *;generalize byt s (q+1)=cb at *;go_wp2_with fail
        go_roundw
        case rel=>exact⟨q+1,h,zb5 (by omega),hb,HN⟩
        case measure=>(try simp[intOf]);omega
      ·have e1:((byt s q:Int)==58)=false:=zb a58;by_cases a32:byt s q=32
       ·have e2:((byt s q:Int)==32)=true:=zc0 a32;by_cases b35:byt s (q+1)=35
        ·have HV:=hq (HFI.o false _ (by rw[hv.o,zD6 h (.inr ⟨a32,b35⟩)]) hb.o);have e3:((byt s (q+1):Int)==35)=true:=zc0 b35;clear HFI hv a58 a32 b35;generalize byt s q=ca at *;generalize byt s (q+1)=cb at *;go_wp2_with fail
         first|exact HV.o|(go_ret;exact HV.o)
        ·have HN:Hq (V=midI s (q+1)):=hq (by rw[hv.o,zq2 h (by omega)]);have e3:((byt s (q+1):Int)==35)=false:=zb b35;clear HFI hv a58 a32 b35;generalize byt s q=ca at *;generalize byt s (q+1)=cb at *;go_wp2_with fail
         go_roundw
         case rel=>exact⟨q+1,h,zb5 (by omega),hb,HN⟩
         case measure=>(try simp[intOf]);omega
       ·have e2:((byt s q:Int)==32)=false:=zb a32;have HN:Hq (V=midI s (q+1)):=hq (by rw[hv.o,zq2 h (by omega)]);clear HFI hv a58 a32;generalize byt s q=ca at *;generalize byt s (q+1)=cb at *;go_wp2_with fail
        go_roundw
        case rel=>exact⟨q+1,h,zb5 (by omega),hb,HN⟩
        case measure=>(try simp[intOf]);omega
     ·have HV:=hq (HFI.o true _ (by rw[hv.o,midI_end h]) hb.o);have h': ¬(q:Int)+1<(s.size:Int):=by omega
      clear HFI hv h;go_wp2_with fail
      first|exact HV.o|(go_ret;exact HV.o)
end Go.Proofs.YtkafjblfjdpdaaaGreatDoor
