/-
  WALKS: yline.Quoted.
  WALKS: yscalar.quoted, yscalar.inQuotes.
-/
import Derived.Test.YtkafjblfjdpdaaaGreatDoorYlS
set_option maxHeartbeats 4000000
set_option maxRecDepth 1000000
namespace Go.Proofs.YtkafjblfjdpdaaaGreatDoor
open Go.RowKit
theorem zC0(c:UInt8)(new:Bs): ∀l:Bs,Lib.replaceK [c] new (l.count c) l=zB8 c new l
 | []=>rfl
 |b::l=>by
  have ih:=zC0 c new l;by_cases hb:b=c
  ·subst hb;have hi:Lib.index (b::l) [b]=((0:Nat):Int):=by rw[Lib.index_one];simp[Lib.indexByte]
   rw[List.count_cons_self,Lib.replaceK_hit _ _ _ _ 0 hi];simp only[List.take_zero,List.nil_append,List.length_cons,List.length_nil,Nat.zero_add,List.drop_succ_cons,List.drop_zero];rw[ih];unfold zB8;rw[List.flatMap_cons,if_pos rfl]
  ·rw[List.count_cons_of_ne (by simpa using hb)];cases hk:l.count c with
   |zero=>
    rw[subst1_none (by rw[List.count_cons_of_ne (by simpa using hb)];exact hk)];rfl
   |succ k=>
    have hk0:0<Lib.count l [c]:=by rw[Lib.count_one];omega
    obtain⟨i,hi⟩:=Lib.index_of_count hk0;have hi2:Lib.index (b::l) [c]=((i+1:Nat):Int):=by
     rw[Lib.index_one]at hi ⊢;unfold Lib.indexByte;rw[hi,if_neg (by simpa using hb),if_neg (by simp<;>omega)];omega
    rw[Lib.replaceK_hit _ _ _ _ _ hi2];rw[hk,Lib.replaceK_hit _ _ _ _ _ hi]at ih;unfold zB8 at ih ⊢;rw[List.flatMap_cons,if_neg hb,←ih];simp[Nat.add_comm,Nat.add_left_comm]
theorem zJ3(c:UInt8)(new l:Bs)(h:new≠ [c]):Lib.replaceAll l [c] new=zB8 c new l:=by
 unfold Lib.replaceAll Lib.replace;rw[if_neg (by simpa using fun e=>h e.symm)];unfold Lib.replaceNum;rw[if_pos (.inl (by decide)),Lib.count_one];exact zC0 c new l
def mx(w:World):Prop:= ∃m:Int,w.cell? ⟨0,0,none⟩=some (.int .i64 m)
theorem mx_of {w:World} (h:w.ShapedOpen Tryz.prog):mx w:=Tryz.laysM155.s1_3 w h
theorem zo4 {w w':World} (h:mx w)(hb:Below w.heap.size w w'):mx w':=by
 obtain⟨m,hm⟩:=h;exact⟨m,(hb.cell (p:=⟨0,0,none⟩) (Go.block_lt_of_cell hm)).trans hm⟩
def QuotedPost(x:Bs×Int)(w:World)(e:Ending)(w':World):Prop:=e= .returned (.tuple #[.string (st x.1),.int .i64 x.2])/\Below w.heap.size w w'
theorem quoted_any(s:ByteArray)(w:World)(hT:tabs w)(hm:mx w)(hs:s.size<=1073741824):
 Calls Tryz.prog 28 #[.string s] w (QuotedPost (zA2 s) w):=by
 have hv:=zs3 s w hT (by unfold maxLen;omega);have HS:Hq (zA2 s=if cleanM s false=s.size then(39::dblB s.data.toList++[39],0) else([],2)):=hq rfl;have HC:Hq (cleanM s false=clnM s false s.size 0):=hq rfl;have HVC:Hq ((valid s).2=false->cleanM s false<s.size):=hq (fun h=>vld_clean s s.size 0 (by omega) h);have HVV:Hq ((valid s).2=true->(vld s s.size 0).2=true):=hq (fun h=>h);generalize zA2 s=V at *;generalize cleanM s false=C at *;generalize valid s=W at *;obtain⟨vp,vo⟩:=W;have HM:=hq hm;have HV:=hq hv;clear hv hT hm;go_enter Tryz.func28,Tryz.ntmps28
 go_wp2_with fail
 refine HV.o.mono ?_;rintro e w1 ⟨rfl,hb⟩;cases vo with
 |false=>
  have HN:Hq (V=([],2)):=hq (HS.o.trans (if_neg (by have:=HVC.o rfl;omega)));clear HM HV HVV HVC HS;go_wp2_with fail
  go_ret2
  exact⟨by rw[HN.o];rfl,hb⟩
 |true=>
  have HVF:=hq (HVV.o rfl);have hsz:=hb.size;have hb2:Below w.heap.size w (w1.iter s 0):=hb.alloc hsz _;have HM1:=hq (zo4 HM.o hb);have HMB:=hq (zo4 HM.o hb2);have hit0:=World.iter_heap w1 s 0;clear HV HVV HVC hb;go_wp2_with fail
  go_loopw [] (fun wr=> ∃(pos f:Nat),pos<=s.size/\wr.heap[w1.heap.size]?=some (.stringIter s pos)/\Below w.heap.size w wr/\Hq (C=clnM s false f pos)/\Hq ((vld s f pos).2=true)/\s.size<=pos+f) (fun wr=>s.size-wr.iterPos w1.heap.size)
  case atStart=>exact⟨0,s.size,Nat.zero_le _,hit0,hb2,HC,HVF,by omega⟩
  case round=>
   obtain⟨pos,f,hps,hit,hbw,hcl,hvl,hf⟩:=hrel;clear hb2 HC HVF HM1 HMB hit0;have hlt:w1.heap.size<wr.heap.size:=(Array.getElem?_eq_some_iff.1 hit).1;by_cases hp:pos<s.size
   ·have hnx: ∀ty,(Instr.next (.pointer (some ⟨w1.heap.size,0,none⟩)) true ty).run Tryz.prog wr=_:=fun ty=>Lib.run_next_any_at wr w1.heap.size s pos ty hit hp
    obtain⟨f,rfl⟩: ∃g,f=g+1:=⟨f-1,by omega⟩;have hnb: ¬bad s pos:=fun h=>by
     have:=hvl.o;unfold vld at this;rw[if_pos hp,if_pos h]at this;cases this
    have HVN:Hq ((vld s f (pos+wd s pos)).2=true):=hq (by
     have:=hvl.o;unfold vld at this;rw[if_pos hp,if_neg hnb]at this;exact this)
    have HCR:=hq (clean_round s f pos hp hnb);have hwp:=zi4 s pos;have hwl:=zp8 s pos hp;have k1:=dec_lt s pos 32 (by omega);have hit2:=Lib.iterAt_heap wr w1.heap.size s pos (pos+(Utf8.decode s pos).2) hit;have hb3:=Lib.below_iterAt hbw (k:=w1.heap.size) hsz s (pos+(Utf8.decode s pos).2);have hm0:Hq (wr.iterPos w1.heap.size=pos):=hq (by simp only[World.iterPos,hit]);have hm1:Hq ((wr.iterAt w1.heap.size s (pos+(Utf8.decode s pos).2)).iterPos w1.heap.size=pos+wd s pos):=hq (by simp only[World.iterPos,hit2];rfl);have HIT:=hq hit2;have HB3:=hq hb3;clear hit2 hb3 hnb hvl hit hbw;by_cases h32:byt s pos<32
    ·have e1:(((Utf8.decode s pos).1:Nat):Int)<32:=by have:=k1.2 h32;omega
     have HN:Hq (V=([],2)):=hq (by
      have h1:=HCR.o;rw[if_pos h32]at h1;rw[HS.o];exact if_neg (by rw[hcl.o,h1];omega))
     clear HCR HS hcl h32 k1;go_wp2_with fail
     go_ret2
     exact⟨by rw[HN.o];rfl,HB3.o⟩
    ·have e1: ¬(((Utf8.decode s pos).1:Nat):Int)<32:=by have:=mt k1.1 h32;omega
     have HN:Hq (C=clnM s false f (pos+wd s pos)):=hq (by rw[hcl.o,HCR.o,if_neg h32]);clear HCR hcl h32 k1;go_wp2_with fail
     go_roundw
     case rel=>exact⟨pos+wd s pos,f,hwl,HIT.o,HB3.o,HN,HVN,by omega⟩
     case measure=>rw[hm1.o,hm0.o];omega
   ·have hnx: ∀ty,(Instr.next (.pointer (some ⟨w1.heap.size,0,none⟩)) true ty).run Tryz.prog wr=_:=fun ty=>Lib.run_next_end_at wr w1.heap.size s pos ty hit hp
    have hcf:C=s.size:=by rw[hcl.o,clnM_end s false f pos hp]
    have HN:Hq (V=(39::dblB s.data.toList++[39],0)):=hq (HS.o.trans (if_pos hcf));obtain⟨m,hmm⟩:=zo4 HM.o hbw;have hco:Lib.countB s ⟨#[39]⟩<=s.size:=Lib.countB_le ⟨#[39]⟩ (by decide) _ s (Nat.le_refl _);have hr:=Tryz.strings_ReplaceAll s ⟨#[39]⟩ ⟨#[39,39]⟩ m wr (by omega) hmm (by decide) (by show s.size+_*2<=_;omega);have hra:Lib.replaceAll s.data.toList [39] [39,39]=dblB s.data.toList:=zJ3 39 [39,39] _ (by decide)
    change Calls _ _ _ _ (fun e w'=>e= .returned (.string ⟨(Lib.replaceAll s.data.toList [39] [39,39]).toArray⟩)/\Below wr.heap.size wr w') at hr
    rw[hra]at hr;have hdl:=dblB_len s.data.toList;have hsl:s.data.toList.length=s.size:=Array.length_toList;generalize dblB s.data.toList=DB at *;have HR:=hq hr;have hds:(⟨DB.toArray⟩:ByteArray).size=DB.length:=by simp[ByteArray.size]
    have hz1:(⟨#[39]⟩:ByteArray).size+(⟨DB.toArray⟩:ByteArray).size<=4294967296:=by
     rw[hds];show 1+_<=_;omega
    have hz2:(⟨#[39]⟩++⟨DB.toArray⟩:ByteArray).size+(⟨#[39]⟩:ByteArray).size<=4294967296:=by
     rw[ByteArray.size_append,hds];show 1+_+1<=_;omega
    clear hcl hcf hvl HS hmm hr hra hco hdl hsl hds;go_wp2_with fail
    refine HR.o.mono ?_;rintro e w2 ⟨rfl,hb3⟩;have hb4:=za hbw hb3;go_wp2_with fail
    go_ret2
    refine⟨?_,hb4⟩;rw[HN.o];refine zo2 (congrArg Value.string ?_) rfl;show st [39]++st DB++st [39]=st (39::DB++[39]);rw[zq9,zq9];rfl
theorem quot_byt {s:ByteArray} (h:0<s.size):zj4 s.data.toList=if byt s 0=34 then((zb4 s).1,(zb4 s).2.2) else if (sglM s 0).2.2=0/\(sglM s 0).2.1=s.size then((sglM s 0).1,0) else([],2):=by
 have hst:st s.data.toList=s:=zo7 (by simp);have hl:s.data.toList.length=s.size:=Array.length_toList;have e:=zg3 s 0 h;rw[List.drop_zero]at e;have hh:s.data.toList.head?=some 34↔byt s 0=34:=by
  rw[e,List.head?_cons,Option.some.injEq];exact zd5 (m:=34) (zd3 s _) (by omega)
 unfold zj4;rw[hst,hl];by_cases h34:byt s 0=34
 ·rw[if_pos (hh.2 h34),if_pos h34]
 ·rw[if_neg (fun h=>h34 (hh.1 h)),if_neg h34]
def zt9(r:Bs×Int)(w:World)(e:Ending)(w':World):Prop:=e= .returned (.tuple #[.string (st r.1),.int .i64 r.2])/\Below w.heap.size w w'
theorem yquot_any(s:ByteArray)(w:World)(hT:tabs w)(h0:0<s.size)(hs:s.size<=1099511627776):
 Calls Tryz.prog 31 #[.string s] w (zt9 (zj4 s.data.toList) w):=by
 have HQ:=hq (quot_byt h0);have HU:=hq (zr s w hT hs);have HS:=hq (single_any s 0 w hT hs (by omega));generalize zj4 s.data.toList=V at *;have y0:((s[0]'h0).toNat:Int)=(byt s 0:Int):=by rw[zb6 s 0 h0]
 clear hT;by_cases h34:byt s 0=34
 ·have HN:=hq (HQ.o.trans (if_pos h34));have e1:((byt s 0:Int)==34)=true:=by rw[h34];rfl
  generalize zb4 s=U at *;obtain⟨ub,up,ue⟩:=U;clear HQ HS h34;go_enter Tryz.func31,Tryz.ntmps31
  go_wp2_with fail
  refine HU.o.mono ?_;rintro e w1 ⟨rfl,hb⟩;clear HU;go_wp2_with fail
  go_ret2
  exact⟨by rw[HN.o];rfl,hb⟩
 ·have HN1:=hq (HQ.o.trans (if_neg h34));have e1:((byt s 0:Int)==34)=false:=beq_eq_false_iff_ne.2 (by omega);generalize sglM s 0=U at *;obtain⟨ub,up,ue⟩:=U;clear HQ HU h34;by_cases hu:ue=0
  ·by_cases hp:up=s.size
   ·have HN:=hq (HN1.o.trans (if_pos ⟨hu,hp⟩));have e2:(ue !=0)=false:=by rw[hu];rfl
    have e3:((up:Int) !=(s.size:Int))=false:=by rw[hp];exact bne_self_eq_false _
    clear HN1 hu hp;go_enter Tryz.func31,Tryz.ntmps31
    go_wp2_with fail
    refine HS.o.mono ?_;rintro e w1 ⟨rfl,hb⟩;clear HS;go_wp2_with fail
    go_ret2
    exact⟨by rw[HN.o];rfl,hb⟩
   ·have HN:=hq (HN1.o.trans (if_neg (fun h=>hp h.2)));have e2:(ue !=0)=false:=by rw[hu];rfl
    have e3:((up:Int) !=(s.size:Int))=true:=bne_iff_ne.2 (by omega);clear HN1 hu hp;go_enter Tryz.func31,Tryz.ntmps31
    go_wp2_with fail
    refine HS.o.mono ?_;rintro e w1 ⟨rfl,hb⟩;clear HS;go_wp2_with fail
    go_ret2
    exact⟨by rw[HN.o];rfl,hb⟩
  ·have HN:=hq (HN1.o.trans (if_neg (fun h=>hu h.1)));have e2:(ue !=0)=true:=bne_iff_ne.2 hu;clear HN1 hu;go_enter Tryz.func31,Tryz.ntmps31
   go_wp2_with fail
   refine HS.o.mono ?_;rintro e w1 ⟨rfl,hb⟩;clear HS;go_wp2_with fail
   go_ret2
   exact⟨by rw[HN.o];rfl,hb⟩
theorem yinQ_any(s d:ByteArray)(w:World)(hT:tabs w)(hm:mx w)(hs:s.size<=1073741824)(hd:d.size<=17592186044416)(hv:(valid d).2=true):
 Calls Tryz.prog 50 #[.string s,.string d] w fun e w'=>e= .returned (.string (st (inQ s.data.toList d.data.toList)))/\Below w.heap.size w w':=by
 have hst:st s.data.toList=s:=zo7 (by simp);have HP:=hq (zJ9 s w (by unfold maxLen;omega));have HS:=hq (fun W=>ysafe_any d W hv hd);have HQ:=hq (fun W (h:Below w.heap.size w W)=>quoted_any s W (zi5 hT h) (zo4 hm h) hs);have HI:Hq (inQ s.data.toList d.data.toList=if zf8 s.data.toList=true then(zA2 s).1 else zn9 0 d.data.toList):=hq (by unfold inQ;rw[hst]);generalize inQ s.data.toList d.data.toList=V at *;generalize zA2 s=U at *;obtain⟨ub,ue⟩:=U;generalize zf8 s.data.toList=PL at *;clear hT hm hst hv;cases PL with
 |true=>
  have HN:=hq (HI.o.trans (if_pos rfl));clear HI HS;go_enter Tryz.func50,Tryz.ntmps50
  go_wp2_with fail
  refine HP.o.mono ?_;rintro e w1 ⟨rfl,hb⟩;clear HP;go_wp2_with fail
  refine(HQ.o _ hb).mono ?_;rintro e w2 ⟨rfl,hb2⟩;have hb3:=za hb hb2;clear HQ hb hb2;go_wp2_with fail
  go_ret
  exact⟨by rw[HN.o];rfl,hb3⟩
 |false=>
  have HN:=hq (HI.o.trans (if_neg (by decide)));clear HI HQ;go_enter Tryz.func50,Tryz.ntmps50
  go_wp2_with fail
  refine HP.o.mono ?_;rintro e w1 ⟨rfl,hb⟩;clear HP;go_wp2_with fail
  refine(HS.o _).mono ?_;rintro e w2 ⟨rfl,hb2⟩;have hb3:=za hb hb2;clear HS hb hb2;go_wp2_with fail
  go_ret
  exact⟨by rw[HN.o];rfl,hb3⟩
end Go.Proofs.YtkafjblfjdpdaaaGreatDoor
