/-
  WALKS: yline.Quoted.
  WALKS: yscalar.quoted, yscalar.inQuotes.
  PLAIN MATHEMATICS: what is written in a line is UTF-8, of bytes that a line may have; where it begins and ends.
  WALKS: yscalar.Key, yscalar.WriteKey.
-/
import Derived.Test.YtkafjblfjdpdaaaGreatDoorYlS
import Derived.Test.YtkafjblfjdpdaaaGreatDoorYsC
import Derived.Lib.SplitLaws
import Derived.Lib.IndexBytes
import Derived.Lib.Replace
import Derived.Lib.ReplaceLaws
import Derived.Test.YtkafjblfjdpdaaaGreatDoorYlB
import Derived.Test.YtkafjblfjdpdaaaGreatDoorUnv
import Derived.Test.YtkafjblfjdpdaaaGreatDoorQuoteQ
namespace Go.Proofs.YtkafjblfjdpdaaaGreatDoor
open Go.RowKit
theorem replaceK_one(c:UInt8)(new:Bs): ∀l:Bs,Lib.replaceK [c] new (l.count c) l=subst1 c new l
 | []=>rfl
 |b::l=>by
  have ih:=replaceK_one c new l
  by_cases hb:b=c
  ·subst hb
   have hi:Lib.index (b::l) [b]=((0:Nat):Int):=by rw[Lib.index_one];simp[Lib.indexByte]
   rw[List.count_cons_self,Lib.replaceK_hit _ _ _ _ 0 hi]
   simp only[List.take_zero,List.nil_append,List.length_cons,List.length_nil,Nat.zero_add,List.drop_succ_cons,List.drop_zero]
   rw[ih]
   unfold subst1
   rw[List.flatMap_cons,if_pos rfl]
  ·rw[List.count_cons_of_ne (by simpa using hb)]
   cases hk:l.count c with
   |zero=>
    rw[subst1_none (by rw[List.count_cons_of_ne (by simpa using hb)];exact hk)]
    rfl
   |succ k=>
    have hk0:0<Lib.count l [c]:=by rw[Lib.count_one];omega
    obtain⟨i,hi⟩:=Lib.index_of_count hk0
    have hi2:Lib.index (b::l) [c]=((i+1:Nat):Int):=by
     rw[Lib.index_one]at hi ⊢
     unfold Lib.indexByte
     rw[hi,if_neg (by simpa using hb),if_neg (by simp<;>omega)]
     omega
    rw[Lib.replaceK_hit _ _ _ _ _ hi2]
    rw[hk,Lib.replaceK_hit _ _ _ _ _ hi]at ih
    unfold subst1 at ih ⊢
    rw[List.flatMap_cons,if_neg hb,←ih]
    simp[Nat.add_comm,Nat.add_left_comm]
theorem replaceAll_one(c:UInt8)(new l:Bs)(h:new≠ [c]):Lib.replaceAll l [c] new=subst1 c new l:=by
 unfold Lib.replaceAll Lib.replace
 rw[if_neg (by simpa using fun e=>h e.symm)]
 unfold Lib.replaceNum
 rw[if_pos (.inl (by decide)),Lib.count_one]
 exact replaceK_one c new l
def mx(w:World):Prop:= ∃m:Int,w.cell? ⟨0,0,none⟩=some (.int .i64 m)
theorem mx_of {w:World} (h:w.ShapedOpen Tryz.prog):mx w:=Tryz.laysM155.s1_3 w h
theorem mx_grow {w w':World} (h:mx w)(hb:Below w.heap.size w w'):mx w':=by
 obtain⟨m,hm⟩:=h
 exact⟨m,(hb.cell (p:=⟨0,0,none⟩) (Go.block_lt_of_cell hm)).trans hm⟩
def QuotedPost(x:Bs×Int)(w:World)(e:Ending)(w':World):Prop:=e= .returned (.tuple #[.string (st x.1),.int .i64 x.2])∧Below w.heap.size w w'
set_option maxHeartbeats 1000000 in
set_option maxRecDepth 1000000 in
theorem quoted_any(s:ByteArray)(w:World)(hT:tabs w)(hm:mx w)(hs:s.size≤1073741824):
 Calls Tryz.prog 28 #[.string s] w (QuotedPost (quotedM s) w):=by
 have hv:=valid_any s w hT (by unfold maxLen;omega)
 have HS:Hq (quotedM s=if cleanM s false=s.size then(39::dblB s.data.toList++[39],0) else([],2)):=hq rfl
 have HC:Hq (cleanM s false=clnM s false s.size 0):=hq rfl
 have HVC:Hq ((valid s).2=false→cleanM s false<s.size):=hq (fun h=>vld_clean s s.size 0 (by omega) h)
 have HVV:Hq ((valid s).2=true→(vld s s.size 0).2=true):=hq (fun h=>h)
 generalize quotedM s=V at *
 generalize cleanM s false=C at *
 generalize valid s=W at *
 obtain⟨vp,vo⟩:=W
 have HM:=hq hm
 have HV:=hq hv
 clear hv hT hm
 go_enter Tryz.func28,Tryz.ntmps28
 go_wp2_with fail
 refine HV.o.mono ?_
 rintro e w1 ⟨rfl,hb⟩
 cases vo with
 |false=>
  have HN:Hq (V=([],2)):=hq (HS.o.trans (if_neg (by have:=HVC.o rfl;omega)))
  clear HM HV HVV HVC HS
  go_wp2_with fail
  go_ret2
  exact⟨by rw[HN.o];rfl,hb⟩
 |true=>
  have HVF:=hq (HVV.o rfl)
  have hsz:=hb.size
  have hb2:Below w.heap.size w (w1.iter s 0):=hb.alloc hsz _
  have HM1:=hq (mx_grow HM.o hb)
  have HMB:=hq (mx_grow HM.o hb2)
  have hit0:=World.iter_heap w1 s 0
  clear HV HVV HVC hb
  go_wp2_with fail
  go_loopw [] (fun wr=> ∃(pos f:Nat),pos≤s.size∧wr.heap[w1.heap.size]?=some (.stringIter s pos)∧Below w.heap.size w wr∧Hq (C=clnM s false f pos)∧Hq ((vld s f pos).2=true)∧s.size≤pos+f) (fun wr=>s.size-wr.iterPos w1.heap.size)
  case atStart=>exact⟨0,s.size,Nat.zero_le _,hit0,hb2,HC,HVF,by omega⟩
  case round=>
   obtain⟨pos,f,hps,hit,hbw,hcl,hvl,hf⟩:=hrel
   clear hb2 HC HVF HM1 HMB hit0
   have hlt:w1.heap.size<wr.heap.size:=(Array.getElem?_eq_some_iff.1 hit).1
   by_cases hp:pos<s.size
   ·have hnx: ∀ty,(Instr.next (.pointer (some ⟨w1.heap.size,0,none⟩)) true ty).run Tryz.prog wr=_:=fun ty=>Lib.run_next_any_at wr w1.heap.size s pos ty hit hp
    obtain⟨f,rfl⟩: ∃g,f=g+1:=⟨f-1,by omega⟩
    have hnb: ¬bad s pos:=fun h=>by
     have:=hvl.o
     unfold vld at this
     rw[if_pos hp,if_pos h]at this
     cases this
    have HVN:Hq ((vld s f (pos+wd s pos)).2=true):=hq (by
     have:=hvl.o
     unfold vld at this
     rw[if_pos hp,if_neg hnb]at this
     exact this)
    have HCR:=hq (clean_round s f pos hp hnb)
    have hwp:=wd_pos s pos
    have hwl:=wd_le s pos hp
    have k1:=dec_lt s pos 32 (by omega)
    have hit2:=Lib.iterAt_heap wr w1.heap.size s pos (pos+(Utf8.decode s pos).2) hit
    have hb3:=Lib.below_iterAt hbw (k:=w1.heap.size) hsz s (pos+(Utf8.decode s pos).2)
    have hm0:Hq (wr.iterPos w1.heap.size=pos):=hq (by simp only[World.iterPos,hit])
    have hm1:Hq ((wr.iterAt w1.heap.size s (pos+(Utf8.decode s pos).2)).iterPos w1.heap.size=pos+wd s pos):=hq (by simp only[World.iterPos,hit2];rfl)
    have HIT:=hq hit2
    have HB3:=hq hb3
    clear hit2 hb3 hnb hvl hit hbw
    by_cases h32:byt s pos<32
    ·have e1:(((Utf8.decode s pos).1:Nat):Int)<32:=by have:=k1.2 h32;omega
     have HN:Hq (V=([],2)):=hq (by
      have h1:=HCR.o
      rw[if_pos h32]at h1
      rw[HS.o]
      exact if_neg (by rw[hcl.o,h1];omega))
     clear HCR HS hcl h32 k1
     go_wp2_with fail
     go_ret2
     exact⟨by rw[HN.o];rfl,HB3.o⟩
    ·have e1: ¬(((Utf8.decode s pos).1:Nat):Int)<32:=by have:=mt k1.1 h32;omega
     have HN:Hq (C=clnM s false f (pos+wd s pos)):=hq (by rw[hcl.o,HCR.o,if_neg h32])
     clear HCR hcl h32 k1
     go_wp2_with fail
     go_roundw
     case rel=>exact⟨pos+wd s pos,f,hwl,HIT.o,HB3.o,HN,HVN,by omega⟩
     case measure=>rw[hm1.o,hm0.o];omega
   ·have hnx: ∀ty,(Instr.next (.pointer (some ⟨w1.heap.size,0,none⟩)) true ty).run Tryz.prog wr=_:=fun ty=>Lib.run_next_end_at wr w1.heap.size s pos ty hit hp
    have hcf:C=s.size:=by rw[hcl.o,clnM_end s false f pos hp]
    have HN:Hq (V=(39::dblB s.data.toList++[39],0)):=hq (HS.o.trans (if_pos hcf))
    obtain⟨m,hmm⟩:=mx_grow HM.o hbw
    have hco:Lib.countB s ⟨#[39]⟩≤s.size:=Lib.countB_le ⟨#[39]⟩ (by decide) _ s (Nat.le_refl _)
    have hr:=Tryz.strings_ReplaceAll s ⟨#[39]⟩ ⟨#[39,39]⟩ m wr (by omega) hmm (by decide) (by show s.size+_*2≤_;omega)
    have hra:Lib.replaceAll s.data.toList [39] [39,39]=dblB s.data.toList:=replaceAll_one 39 [39,39] _ (by decide)
    change Calls _ _ _ _ (fun e w'=>e= .returned (.string ⟨(Lib.replaceAll s.data.toList [39] [39,39]).toArray⟩)∧Below wr.heap.size wr w') at hr
    rw[hra]at hr
    have hdl:=dblB_len s.data.toList
    have hsl:s.data.toList.length=s.size:=Array.length_toList
    generalize dblB s.data.toList=DB at *
    have HR:=hq hr
    have hds:(⟨DB.toArray⟩:ByteArray).size=DB.length:=by simp[ByteArray.size]
    have hz1:(⟨#[39]⟩:ByteArray).size+(⟨DB.toArray⟩:ByteArray).size≤4294967296:=by
     rw[hds]
     show 1+_≤_
     omega
    have hz2:(⟨#[39]⟩++⟨DB.toArray⟩:ByteArray).size+(⟨#[39]⟩:ByteArray).size≤4294967296:=by
     rw[ByteArray.size_append,hds]
     show 1+_+1≤_
     omega
    clear hcl hcf hvl HS hmm hr hra hco hdl hsl hds
    go_wp2_with fail
    refine HR.o.mono ?_
    rintro e w2 ⟨rfl,hb3⟩
    have hb4:=below_trans hbw hb3
    go_wp2_with fail
    go_ret2
    refine⟨?_,hb4⟩
    rw[HN.o]
    refine ret_two (congrArg Value.string ?_) rfl
    show st [39]++st DB++st [39]=st (39::DB++[39])
    rw[cat_bytes,cat_bytes];rfl
end Go.Proofs.YtkafjblfjdpdaaaGreatDoor
namespace Go.Proofs.YtkafjblfjdpdaaaGreatDoor
open Go.RowKit
theorem quot_byt {s:ByteArray} (h:0<s.size):quotL s.data.toList=if byt s 0=34 then((unquoteM s).1,(unquoteM s).2.2) else if (sglM s 0).2.2=0∧(sglM s 0).2.1=s.size then((sglM s 0).1,0) else([],2):=by
 have hst:st s.data.toList=s:=ba_ext (by simp)
 have hl:s.data.toList.length=s.size:=Array.length_toList
 have e:=drop_at s 0 h
 rw[List.drop_zero]at e
 have hh:s.data.toList.head?=some 34↔byt s 0=34:=by
  rw[e,List.head?_cons,Option.some.injEq]
  exact ofNat_is (m:=34) (byt_lt s _) (by omega)
 unfold quotL
 rw[hst,hl]
 by_cases h34:byt s 0=34
 ·rw[if_pos (hh.2 h34),if_pos h34]
 ·rw[if_neg (fun h=>h34 (hh.1 h)),if_neg h34]
def StrPost(r:Bs×Int)(w:World)(e:Ending)(w':World):Prop:=e= .returned (.tuple #[.string (st r.1),.int .i64 r.2])∧Below w.heap.size w w'
set_option maxHeartbeats 4000000 in
set_option maxRecDepth 1000000 in
theorem yquot_any(s:ByteArray)(w:World)(hT:tabs w)(h0:0<s.size)(hs:s.size≤1099511627776):
 Calls Tryz.prog 31 #[.string s] w (StrPost (quotL s.data.toList) w):=by
 have HQ:=hq (quot_byt h0)
 have HU:=hq (unquote_any s w hT hs)
 have HS:=hq (single_any s 0 w hT hs (by omega))
 generalize quotL s.data.toList=V at *
 have y0:((s[0]'h0).toNat:Int)=(byt s 0:Int):=by rw[byt_eq s 0 h0]
 clear hT
 by_cases h34:byt s 0=34
 ·have HN:=hq (HQ.o.trans (if_pos h34))
  have e1:((byt s 0:Int)==34)=true:=by rw[h34];rfl
  generalize unquoteM s=U at *
  obtain⟨ub,up,ue⟩:=U
  clear HQ HS h34
  go_enter Tryz.func31,Tryz.ntmps31
  go_wp2_with fail
  refine HU.o.mono ?_
  rintro e w1 ⟨rfl,hb⟩
  clear HU
  go_wp2_with fail
  go_ret2
  exact⟨by rw[HN.o];rfl,hb⟩
 ·have HN1:=hq (HQ.o.trans (if_neg h34))
  have e1:((byt s 0:Int)==34)=false:=beq_eq_false_iff_ne.2 (by omega)
  generalize sglM s 0=U at *
  obtain⟨ub,up,ue⟩:=U
  clear HQ HU h34
  by_cases hu:ue=0
  ·by_cases hp:up=s.size
   ·have HN:=hq (HN1.o.trans (if_pos ⟨hu,hp⟩))
    have e2:(ue !=0)=false:=by rw[hu];rfl
    have e3:((up:Int) !=(s.size:Int))=false:=by rw[hp];exact bne_self_eq_false _
    clear HN1 hu hp
    go_enter Tryz.func31,Tryz.ntmps31
    go_wp2_with fail
    refine HS.o.mono ?_
    rintro e w1 ⟨rfl,hb⟩
    clear HS
    go_wp2_with fail
    go_ret2
    exact⟨by rw[HN.o];rfl,hb⟩
   ·have HN:=hq (HN1.o.trans (if_neg (fun h=>hp h.2)))
    have e2:(ue !=0)=false:=by rw[hu];rfl
    have e3:((up:Int) !=(s.size:Int))=true:=bne_iff_ne.2 (by omega)
    clear HN1 hu hp
    go_enter Tryz.func31,Tryz.ntmps31
    go_wp2_with fail
    refine HS.o.mono ?_
    rintro e w1 ⟨rfl,hb⟩
    clear HS
    go_wp2_with fail
    go_ret2
    exact⟨by rw[HN.o];rfl,hb⟩
  ·have HN:=hq (HN1.o.trans (if_neg (fun h=>hu h.1)))
   have e2:(ue !=0)=true:=bne_iff_ne.2 hu
   clear HN1 hu
   go_enter Tryz.func31,Tryz.ntmps31
   go_wp2_with fail
   refine HS.o.mono ?_
   rintro e w1 ⟨rfl,hb⟩
   clear HS
   go_wp2_with fail
   go_ret2
   exact⟨by rw[HN.o];rfl,hb⟩
set_option maxHeartbeats 4000000 in
set_option maxRecDepth 1000000 in
theorem yinQ_any(s d:ByteArray)(w:World)(hT:tabs w)(hm:mx w)(hs:s.size≤1073741824)(hd:d.size≤17592186044416)(hv:(valid d).2=true):
 Calls Tryz.prog 50 #[.string s,.string d] w fun e w'=>e= .returned (.string (st (inQ s.data.toList d.data.toList)))∧Below w.heap.size w w':=by
 have hst:st s.data.toList=s:=ba_ext (by simp)
 have HP:=hq (yplain_any s w (by unfold maxLen;omega))
 have HS:=hq (fun W=>ysafe_any d W hv hd)
 have HQ:=hq (fun W (h:Below w.heap.size w W)=>quoted_any s W (tabs_grow hT h) (mx_grow hm h) hs)
 have HI:Hq (inQ s.data.toList d.data.toList=if plainL s.data.toList=true then(quotedM s).1 else safeL 0 d.data.toList):=hq (by unfold inQ;rw[hst])
 generalize inQ s.data.toList d.data.toList=V at *
 generalize quotedM s=U at *
 obtain⟨ub,ue⟩:=U
 generalize plainL s.data.toList=PL at *
 clear hT hm hst hv
 cases PL with
 |true=>
  have HN:=hq (HI.o.trans (if_pos rfl))
  clear HI HS
  go_enter Tryz.func50,Tryz.ntmps50
  go_wp2_with fail
  refine HP.o.mono ?_
  rintro e w1 ⟨rfl,hb⟩
  clear HP
  go_wp2_with fail
  refine(HQ.o _ hb).mono ?_
  rintro e w2 ⟨rfl,hb2⟩
  have hb3:=below_trans hb hb2
  clear HQ hb hb2
  go_wp2_with fail
  go_ret
  exact⟨by rw[HN.o];rfl,hb3⟩
 |false=>
  have HN:=hq (HI.o.trans (if_neg (by decide)))
  clear HI HQ
  go_enter Tryz.func50,Tryz.ntmps50
  go_wp2_with fail
  refine HP.o.mono ?_
  rintro e w1 ⟨rfl,hb⟩
  clear HP
  go_wp2_with fail
  refine(HS.o _).mono ?_
  rintro e w2 ⟨rfl,hb2⟩
  have hb3:=below_trans hb hb2
  clear HS hb hb2
  go_wp2_with fail
  go_ret
  exact⟨by rw[HN.o];rfl,hb3⟩
end Go.Proofs.YtkafjblfjdpdaaaGreatDoor
namespace Go.Proofs.YtkafjblfjdpdaaaGreatDoor
open Go.RowKit
def Vd(l:Bs):Prop:= ∃rs,RunesOk rs∧encAll rs=l
theorem encs_app(a b:List Nat):encAll (a++b)=encAll a++encAll b:=by unfold encAll;rw[List.flatMap_append]
theorem Vd.nil:Vd []:=⟨[],(fun r hr=>by cases hr),rfl⟩
theorem Vd.app {a b:Bs} (ha:Vd a)(hb:Vd b):Vd (a++b):=by
 obtain⟨x,x1,x2⟩:=ha
 obtain⟨y,y1,y2⟩:=hb
 refine⟨x++y,fun r hr=> ?_,by rw[encs_app,x2,y2]⟩
 rcases List.mem_append.1 hr with h|h
 ·exact x1 r h
 ·exact y1 r h
theorem Vd.low {l:Bs} (h: ∀c∈l,c.toNat<128):Vd l:=by
 refine⟨l.map UInt8.toNat,fun r hr=> ?_,?_⟩
 ·obtain ⟨c,hc,rfl⟩:=List.mem_map.1 hr
  have:=h c hc
  omega
 ·unfold encAll
  induction l with
  |nil=>rfl
  |cons c l ih=>
   rw[List.map_cons,List.flatMap_cons,encU_low (h c (by simp)),ih (fun x hx=>h x (List.mem_cons_of_mem _ hx))]
   rfl
theorem Vd.valid {l:Bs} (h:Vd l):(valid (st l)).2=true:=by
 obtain⟨rs,h1,h2⟩:=h
 rw[←h2]
 exact valid_enc rs h1
theorem vd_of {l:Bs} (h:(valid (st l)).2=true):Vd l:=by
 obtain⟨rs,h1,h2⟩:=scan_at (st l) (st (quoteM (st l)).1) 0 h ⟨[],by rw[st_list,List.append_nil];rfl⟩
 refine⟨rs,?_,by rw[h1,st_list]⟩
 have ho:RunesOk (scanM (st (quoteM (st l)).1) 0).2.2:=by
  unfold scanM
  split
  ·exact (scanGo_ok _ _ _ [] (fun x hx=>by cases hx)).1
  ·exact fun x hx=>by cases hx
 rw[h2]at ho
 exact ho
theorem encU_high {r:Nat} (h:128≤r)(hr:r≤1114111∧(r<55296∨57343<r)): ∀b∈encB r,128≤b.toNat:=by
 intro b hb
 unfold encB at hb
 obtain⟨x,hx,rfl⟩:=List.mem_map.1 hb
 have hx2:128≤x∧x<256:=by
  by_cases h2:r≤2047
  ·rw[Lib.encodeRuneZ_two (by omega) (by omega)]at hx
   simp only[List.mem_cons,List.not_mem_nil,or_false]at hx
   omega
  ·by_cases h3:r≤65535
   ·rw[Lib.encodeRuneZ_three (by omega)]at hx
    simp only[List.mem_cons,List.not_mem_nil,or_false]at hx
    omega
   ·rw[Lib.encodeRuneZ_four (by omega) (by omega)]at hx
    simp only[List.mem_cons,List.not_mem_nil,or_false]at hx
    omega
 rw[ofNat_toNat (by omega)]
 omega
theorem Vd.ind {P:Bs→Prop} (h0:P [])(h1: ∀(c:UInt8) (l:Bs),c.toNat<128→Vd l→P l→P (c::l))(h2: ∀(a l:Bs),(∀c∈a,128≤c.toNat)→Vd a→Vd l→P l→P (a++l)) {l:Bs} (h:Vd l):P l:=by
 obtain⟨rs,ho,rfl⟩:=h
 induction rs with
 |nil=>exact h0
 |cons r rs ih=>
  have hr:=ho r (by simp)
  have ht:RunesOk rs:=fun x hx=>ho x (List.mem_cons_of_mem _ hx)
  have hi:=ih ht
  show P (encB r++encAll rs)
  by_cases hlow:r<128
  ·have e:encB r=[UInt8.ofNat r]:=by
    have:=encU_low (c:=UInt8.ofNat r) (by rw[ofNat_toNat (by omega)];exact hlow)
    rwa [ofNat_toNat (by omega)]at this
   rw[e]
   exact h1 (UInt8.ofNat r) (encAll rs) (by rw[ofNat_toNat (by omega)];exact hlow) ⟨rs,ht,rfl⟩ hi
  ·exact h2 (encB r) (encAll rs) (encU_high (by omega) hr) ⟨[r],(fun x hx=>by rw[List.mem_singleton]at hx;rw[hx];exact hr),by show encB r++[]=_;rw[List.append_nil]⟩ ⟨rs,ht,rfl⟩ hi
theorem Vd.one {c:UInt8} (h:c.toNat<128):Vd [c]:= .low (fun x hx=>by rw[List.mem_singleton]at hx;rw[hx];exact h)
theorem Vd.cons {c:UInt8} {l:Bs} (h:c.toNat<128)(hl:Vd l):Vd (c::l):=Vd.app (a:=[c]) (.one h) hl
theorem qb_low: ∀c:Nat,c<128→ ∀x∈qb (UInt8.ofNat c),x.toNat<128∧32≤x.toNat:=by decide+kernel
theorem qb_low' {c:UInt8} (h:c.toNat<128): ∀x∈qb c,x.toNat<128∧32≤x.toNat:=by
 have:=qb_low c.toNat h
 rwa [UInt8.ofNat_toNat]at this
theorem vd_quoteB {l:Bs} (h:Vd l):Vd (quoteB l)∧ ∀c∈quoteB l,32≤c.toNat:=
 Vd.ind (P:=fun l=>Vd (quoteB l)∧ ∀c∈quoteB l,32≤c.toNat) ⟨.nil,fun c hc=>by cases hc⟩
  (fun c l hc _ ih=>by
   have e:quoteB (c::l)=qb c++quoteB l:=rfl
   rw[e]
   refine⟨.app (.low (fun x hx=>(qb_low' hc x hx).1)) ih.1,fun x hx=> ?_⟩
   rcases List.mem_append.1 hx with h|h
   ·exact (qb_low' hc x h).2
   ·exact ih.2 x h)
  (fun a l ha hv _ ih=>by
   rw[quoteB_app,quoteB_high a ha]
   refine⟨.app hv ih.1,fun x hx=> ?_⟩
   rcases List.mem_append.1 hx with h|h
   ·have:=ha x h;omega
   ·exact ih.2 x h) h
def hashL:UInt8→Bs→Bool
 |_,[]=>true
 |p,c::r=> !(p==32&&c==35)&&hashL c r
theorem vd_qt {t:Bs} (h:(valid (st t)).2=true):Vd (qtB t)∧ ∀c∈qtB t,32≤c.toNat:=by
 obtain⟨h1,h2⟩:=vd_quoteB (vd_of h)
 rw[←qt_text,quoteM_yes h,st_list]
 refine⟨.cons (by decide) (.app h1 (.one (by decide))),fun c hc=> ?_⟩
 simp only[List.cons_append,List.mem_cons,List.mem_append,List.not_mem_nil,or_false]at hc
 rcases hc with rfl|h|rfl
 ·decide
 ·exact h2 c h
 ·decide
theorem vd_flat {α:Type} {f:α→Bs}: ∀(l:List α),(∀x∈l,Vd (f x)∧ ∀c∈f x,32≤c.toNat)→Vd ((l.map f).flatMap fun y=>44::(([]:Bs)++y))∧ ∀c∈(l.map f).flatMap fun y=>44::(([]:Bs)++y),32≤c.toNat
 | [],_=>⟨.nil,fun c hc=>by cases hc⟩
 |x::l,h=>by
  obtain⟨h1,h2⟩:=vd_flat l (fun y hy=>h y (List.mem_cons_of_mem _ hy))
  obtain⟨h3,h4⟩:=h x (by simp)
  simp only[List.nil_append]at h1 h2
  simp only[List.map_cons,List.flatMap_cons,List.nil_append,List.cons_append]
  refine⟨.cons (by decide) (.app h3 h1),fun c hc=> ?_⟩
  rcases List.mem_cons.1 hc with rfl|hc
  ·decide
  rcases List.mem_append.1 hc with hc|hc
  ·exact h4 c hc
  ·exact h2 c hc
theorem vd_list {α:Type} {f:α→Bs} (l:List α)(h: ∀x∈l,Vd (f x)∧ ∀c∈f x,32≤c.toNat) {o c:UInt8} (ho:o.toNat<128∧32≤o.toNat)(hc:c.toNat<128∧32≤c.toNat)(n lev:Nat):
 Vd (listB false n lev o c (l.map f))∧ ∀x∈listB false n lev o c (l.map f),32≤x.toNat:=by
 have e: ∀m k,lnB false m k=[]:=fun m k=>rfl
 unfold listB
 simp only[e,ite_self,List.append_nil]
 cases l with
 |nil=>
  refine⟨.cons ho.1 (.one hc.1),fun x hx=> ?_⟩
  have hx:x=o∨x=c:=by simpa [commaB] using hx
  rcases hx with rfl|rfl
  ·exact ho.2
  ·exact hc.2
 |cons y l=>
  obtain⟨h1,h2⟩:=vd_flat l (fun z hz=>h z (List.mem_cons_of_mem _ hz))
  obtain⟨h3,h4⟩:=h y (by simp)
  simp only[List.map_cons,commaB,List.nil_append]
  simp only[List.nil_append]at h1 h2
  refine⟨.cons ho.1 (.app (.app h3 h1) (.one hc.1)),fun x hx=> ?_⟩
  rcases List.mem_cons.1 hx with rfl|hx
  ·exact ho.2
  rcases List.mem_append.1 hx with hx|hx
  ·rcases List.mem_append.1 hx with hx|hx
   ·exact h4 x hx
   ·exact h2 x hx
  ·rw[List.mem_singleton]at hx
   rw[hx]
   exact hc.2
theorem vd_prB(n:Nat): ∀v:Vl,Rgt v→ ∀lev:Nat,Vd (prB false n lev v)∧ ∀c∈prB false n lev v,32≤c.toNat:=Vl.ind (fun k t ks is ih h lev=>by
 obtain⟨hn,h7⟩:=h.here
 have hit:=h.item
 rw[nodeM_mk]at hn
 rw[prB_mk]
 by_cases h1:k=1
 ·rw[if_pos h1]
  exact⟨.low (by decide),by decide⟩
 rw[if_neg h1]
 by_cases h5:k=5
 ·rw[if_neg (by omega),if_pos h5]
  exact vd_list is (fun x hx=>ih x hx (hit x hx) (lev+1)) (by decide) (by decide) n lev
 rw[if_neg h5]at hn ⊢
 by_cases h6:k=6
 ·rw[if_neg (by omega),if_pos h6,zip_texts]
  rw[if_pos h6]at hn
  unfold membersM at hn
  simp only[Bool.and_eq_true,decide_eq_true_eq,List.all_eq_true]at hn
  obtain⟨_,_,_,hval,_⟩:=hn
  refine vd_list (ks.zip is) (fun q hq=> ?_) (by decide) (by decide) n lev
  have hi:q.2∈is:=(List.of_mem_zip hq).2
  have hk:q.1∈ks:=(List.of_mem_zip hq).1
  have e:memB false q.1 (prB false n (lev+1) q.2)=qtB q.1++(58::prB false n (lev+1) q.2):=by unfold memB;simp
  obtain⟨a1,a2⟩:=vd_qt (hval q.1 hk)
  obtain⟨b1,b2⟩:=ih q.2 hi (hit _ hi) (lev+1)
  rw[e]
  refine⟨.app a1 (.cons (by decide) b1),fun c hc=> ?_⟩
  rcases List.mem_append.1 hc with hc|hc
  ·exact a2 c hc
  rcases List.mem_cons.1 hc with rfl|hc
  ·decide
  ·exact b2 c hc
 rw[if_neg h6]at hn ⊢
 simp only[Bool.and_eq_true,decide_eq_true_eq]at hn
 obtain⟨_,hsc⟩:=hn
 unfold scalarM at hsc
 rw[if_neg h1]at hsc
 by_cases h4:k=4
 ·rw[if_pos h4]
  rw[if_neg (by omega),if_neg (by omega),if_pos h4]at hsc
  exact vd_qt hsc
 rw[if_neg h4]
 by_cases h2:k=2
 ·rw[if_pos h2]at hsc
  simp only[Bool.or_eq_true,decide_eq_true_eq]at hsc
  rcases hsc with rfl|rfl
  ·exact ⟨.low (by decide),by decide⟩
  ·exact ⟨.low (by decide),by decide⟩
 rw[if_neg h2]at hsc
 by_cases h3:k=3
 ·rw[if_pos h3]at hsc
  have hd:=(decM_num hsc).1
  refine⟨.low (fun c hc=>(num_bytes (List.all_eq_true.1 hd c hc)).2.1),fun c hc=> ?_⟩
  have:=(num_bytes (List.all_eq_true.1 hd c hc)).1
  omega
 rw[if_neg h3,if_neg h4,if_neg h7]at hsc
 cases hsc)
end Go.Proofs.YtkafjblfjdpdaaaGreatDoor
namespace Go.Proofs.YtkafjblfjdpdaaaGreatDoor
open Go.RowKit
set_option maxHeartbeats 4000000 in
set_option maxRecDepth 1000000 in
theorem ywkey_any(s:ByteArray)(w:World)(hT:tabs w)(hm:mx w)(hs:s.size≤1073741824):
 Calls Tryz.prog 23 #[.string s] w (StrPost (writeKeyL s.data.toList) w):=by
 have hst:st s.data.toList=s:=ba_ext (by simp)
 have HQ:=hq (quote_any s w hT (by omega))
 have HB:=hq (fun W (h:Below w.heap.size w W)=>ybare_any s W (tabs_grow hT h) (by omega))
 have HW:Hq (writeKeyL s.data.toList=if (valid s).2=true then(if bareL s.data.toList=true then s.data.toList else inQ s.data.toList (quoteM s).1,0) else([],2)):=hq (by
  unfold writeKeyL
  rw[hst,←qt_text,hst])
 have HQY:Hq ((valid s).2=true→(quoteM s).2=0):=hq (fun h=>by rw[quoteM_yes h])
 have HQN:Hq ((valid s).2=false→(quoteM s).2=2):=hq (fun h=>by rw[quoteM_no (by rw[h];decide)])
 have HQV:Hq ((valid s).2=true→ ∀W,Below w.heap.size w W→Calls Tryz.prog 50 #[.string s,.string (st (quoteM s).1)] W fun e w'=>e= .returned (.string (st (inQ s.data.toList (quoteM s).1)))∧Below W.heap.size W w'):=hq (fun h W hW=>by
  have hv:=(vd_qt (t:=s.data.toList) (by rw[hst];exact h)).1.valid
  rw[←qt_text,hst]at hv
  have hz:=quote_len s
  have:=yinQ_any s (st (quoteM s).1) W (tabs_grow hT hW) (mx_grow hm hW) hs (by rw[st_size];omega) hv
  rwa [st_list]at this)
 have HSS:Hq (.string (st s.data.toList)=(.string s:Value)):=hq (by rw[hst])
 generalize writeKeyL s.data.toList=V at *
 generalize quoteM s=U at *
 obtain⟨ub,ue⟩:=U
 generalize bareL s.data.toList=BL at *
 generalize inQ s.data.toList ub=IQ at *
 generalize s.data.toList=L at *
 simp only at HQY HQN HQV HQ HW
 clear hT hm hst
 generalize (valid s).2=VV at *
 cases VV with
 |false=>
  have HN:=hq (HW.o.trans (if_neg (by decide)))
  have e1:(ue !=0)=true:=by rw[HQN.o rfl];rfl
  clear HW HQY HQN HQV HSS HB
  go_enter Tryz.func23,Tryz.ntmps23
  go_wp2_with fail
  refine HQ.o.mono ?_
  rintro e w1 ⟨rfl,hb⟩
  clear HQ
  go_wp2_with fail
  go_ret2
  exact⟨by rw[HN.o];rfl,hb⟩
 |true=>
  have HN1:=hq (HW.o.trans (if_pos rfl))
  have e1:(ue !=0)=false:=by rw[HQY.o rfl];rfl
  have HQV2:=hq (HQV.o rfl)
  clear HW HQY HQN HQV
  cases BL with
  |true=>
   have HN:Hq (V=(L,0)):=hq HN1.o
   clear HN1 HQV2
   go_enter Tryz.func23,Tryz.ntmps23
   go_wp2_with fail
   refine HQ.o.mono ?_
   rintro e w1 ⟨rfl,hb⟩
   clear HQ
   go_wp2_with fail
   refine(HB.o _ hb).mono ?_
   rintro e w2 ⟨rfl,hb2⟩
   have hb3:=below_trans hb hb2
   clear HB hb hb2
   go_wp2_with fail
   go_ret2
   exact⟨by rw[HN.o];simp only;rw[HSS.o];rfl,hb3⟩
  |false=>
   have HN:Hq (V=(IQ,0)):=hq HN1.o
   clear HN1 HSS
   go_enter Tryz.func23,Tryz.ntmps23
   go_wp2_with fail
   refine HQ.o.mono ?_
   rintro e w1 ⟨rfl,hb⟩
   clear HQ
   go_wp2_with fail
   refine(HB.o _ hb).mono ?_
   rintro e w2 ⟨rfl,hb2⟩
   have hb3:=below_trans hb hb2
   clear HB hb hb2
   go_wp2_with fail
   refine(HQV2.o _ hb3).mono ?_
   rintro e w3 ⟨rfl,hb4⟩
   have hb5:=below_trans hb3 hb4
   clear HQV2 hb3 hb4
   go_wp2_with fail
   go_ret2
   exact⟨by rw[HN.o];rfl,hb5⟩
end Go.Proofs.YtkafjblfjdpdaaaGreatDoor
