/-
  WALKS: the document's own answers of layer 11: Write, Key, WriteKey.
  WALK: the law PrintWrites, over its small case.
  WALK: the law YscalarWrites.
-/
import Derived.Test.YtkafjblfjdpdaaaGreatDoorYsN
import Derived.Test.YtkafjblfjdpdaaaGreatDoorRowU8
import Derived.Test.YtkafjblfjdpdaaaGreatDoorPrG
import Derived.Test.YtkafjblfjdpdaaaGreatDoorPrI
import Derived.Test.YtkafjblfjdpdaaaGreatDoorPrP
namespace Go.Proofs.YtkafjblfjdpdaaaGreatDoor
open Go.RowKit
set_option maxHeartbeats 8000000 in
set_option maxRecDepth 1000000 in
theorem rwkey_any(s:ByteArray)(w:World)(hs:s.size≤1073741824):
 Calls Tryz.prog 24 #[.string s] w (StrPost (writeKeyL s.data.toList) w):=by
 have hst:st s.data.toList=s:=ba_ext (by simp)
 have HVA:=hq (fun W=>rvalid_any s W (by unfold maxLen;omega))
 have HBA:=hq (fun W=>rbare_any s W (by omega))
 have HQD:=hq (fun (hv:(valid s).2=true) W=>rquoted11_any s W hv hs)
 have HW:Hq (writeKeyL s.data.toList=if (valid s).2=true then(if bareL s.data.toList=true then s.data.toList else inQ s.data.toList (quoteM s).1,0) else([],2)):=hq (by
  unfold writeKeyL
  rw[hst,←qt_text,hst])
 have HFI:Hq (∀b t (er:Int) W',writeKeyL s.data.toList=(b,er)→t=st b→Below w.heap.size w W'→StrPost (writeKeyL s.data.toList) w (.returned (.tuple #[.string t,.int .i64 er])) W'):=hq (fun b t er W' h1 h2 h3=>by rw[h1,h2];exact⟨rfl,h3⟩)
 have HSS:Hq (s=st s.data.toList):=hq hst.symm
 generalize StrPost (writeKeyL s.data.toList) w=PP at *
 generalize writeKeyL s.data.toList=V at *
 generalize inQ s.data.toList (quoteM s).1=IQ at *
 generalize bareL s.data.toList=BL at *
 generalize s.data.toList=L at *
 generalize valid s=VA at *
 obtain⟨vp,vo⟩:=VA
 unfold QuotedPost at HQD
 simp only at HW HVA HQD
 clear hst hs
 go_enter Tryz.func24,Tryz.ntmps24
 go_wp2_with fail
 refine(HVA.o _).mono ?_
 rintro e w1 ⟨rfl,rfl⟩
 clear HVA
 cases vo with
 |false=>
  have HV:=hq (HFI.o [] ⟨#[]⟩ 2 w (HW.o.trans (if_neg (by decide))) rfl (Below.refl _ _))
  clear HFI HW HQD HBA
  go_wp2_with fail
  first|exact HV.o|(go_ret2;exact HV.o)
 |true=>
 have HN:=hq (HW.o.trans (if_pos rfl))
 have HQE:=hq (HQD.o rfl)
 clear HW HQD
 go_wp2_with fail
 refine(HBA.o _).mono ?_
 rintro e w1 ⟨rfl,hb⟩
 have HB1:=hq hb
 clear hb HBA
 cases BL with
 |true=>
  have HV:=hq (HFI.o L s 0 w1 HN.o HSS.o HB1.o)
  clear HFI HN HQE HSS
  go_wp2_with fail
  first|exact HV.o|(go_ret2;exact HV.o)
 |false=>
  have HE:Hq (V=(IQ,0)):=hq HN.o
  clear HN
  go_wp2_with fail
  refine(HQE.o _).mono ?_
  rintro e w2 ⟨rfl,hb⟩
  have HV:=hq (HFI.o IQ (st IQ) 0 w2 HE.o rfl (below_trans HB1.o hb))
  clear HFI HE HQE hb HB1
  go_wp2_with fail
  first|exact HV.o|(go_ret2;exact HV.o)
set_option maxHeartbeats 8000000 in
set_option maxRecDepth 1000000 in
theorem rwrite_any(x:Vt)(w:World)(hx:Pri x w):Calls Tryz.prog 22 #[x.v] w (TextP (writeL x.m) w):=by
 have HRI:=hq (fun W (h:Below w.heap.size w W)=>rrightV_any x W (hx.fine.grow h))
 have HCO:=hq (fun W (h:Below w.heap.size w W)=>rcompact_any x W (hx.grow h))
 have hsz:x.t.length≤2048:=by
  have:=hx.sht.here
  obtain⟨k,t,ks,o,c,is⟩:=x
  rw[Vt.m_mk]at this
  exact this.1
 have hxt:x.m.t=x.t:=by
  obtain⟨k,t,ks,o,c,is⟩:=x
  rw[Vt.m_mk]
  rfl
 have HBA:=hq (fun W=>rbare_any (st x.t) W (by rw[st_size];omega))
 have HRS:=hq (fun W=>rresolve_any (st x.t) W (by rw[st_size];omega))
 have HSF:Hq (rightM x.m=true→ ∀W,Calls Tryz.prog 53 #[.string (st (prB false 0 0 x.m))] W fun e w'=>e= .returned (.string (st (safeL 0 (prB false 0 0 x.m))))∧Below W.heap.size W w'):=hq (fun hr W=>by
  have hne:=prB_ne false 0 0 hr
  have hl0:0<(prB false 0 0 x.m).length:=List.length_pos_iff.2 hne
  have:=rsafe_any (st (prB false 0 0 x.m)) W (by rw[st_size];exact hl0) (by rw[st_size];have:=prB_small hr hx.sht;omega)
  rwa [st_list]at this)
 have HIQ:Hq (x.m.k=4→rightM x.m=true→ ∀W,Calls Tryz.prog 54 #[.string (st x.t)] W (QuotedPost (inQ x.t (prB false 0 0 x.m),0) W)):=hq (fun h4 hr W=>by
  have hg:=rgt_of hr
  obtain⟨k,t,ks,o,c,is⟩:=x
  rw[Vt.m_mk]at h4 hg ⊢
  have hg:=hg.here
  have h4:k=4:=h4
  subst h4
  obtain⟨hn,_⟩:=hg
  rw[nodeM_mk,if_neg (by decide),if_neg (by decide)]at hn
  simp only[Bool.and_eq_true,decide_eq_true_eq]at hn
  obtain⟨⟨hk0,hi0⟩,hsc⟩:=hn
  have hv:(valid (st t)).2=true:=hsc
  rw[hk0,hi0,write_str hv]
  have:=rquoted11_any (st t) W hv (by rw[st_size];have:t.length≤2048:=hsz;omega)
  rw[st_list]at this
  exact this)
 rw[st_list]at HBA HRS
 have HCM:Hq (compactM x.m=if rightM x.m=true then(prB false 0 0 x.m,0) else([],1)):=hq rfl
 have HWM:Hq (writeL x.m=if rightM x.m=true then(if x.m.k=4 then(if bareL x.t=true∧(resolveL x.t).k=4 then x.t else inQ x.t (prB false 0 0 x.m)) else safeL 0 (prB false 0 0 x.m),0) else([],1)):=hq (by unfold writeL;rw[hxt])
 have HP:Hq (∀(r:Bs×Int) W',writeL x.m=r→Below w.heap.size w W'→TextP (writeL x.m) w (.returned (.tuple #[.string (st r.1),.int .i64 r.2])) W'):=hq (fun r W' h1 h2=>by rw[h1];exact⟨rfl,h2⟩)
 generalize TextP (writeL x.m) w=PP at *
 generalize compactM x.m=CM at *
 generalize writeL x.m=WM at *
 generalize prB false 0 0 x.m=PB at *
 generalize safeL 0 PB=SF at *
 clear hx hsz hxt
 obtain⟨k,t,⟨ko,kc,kl⟩,o,c,is⟩:=x
 rw[Vt.v_mk']at *
 have hk:(Vt.mk k t ⟨ko,kc,kl⟩ o c is).m.k=k:=by rw[Vt.m_mk];rfl
 rw[hk]at HWM HIQ
 have ht:(Vt.mk k t ⟨ko,kc,kl⟩ o c is).t=t:=rfl
 rw[ht]at HWM HBA HRS HIQ
 generalize (Vt.mk k t ⟨ko,kc,kl⟩ o c is).m=X at *
 clear hk ht
 generalize inQ t PB=IQ at *
 generalize bareL t=BL at *
 generalize hRV:resolveL t=RV at *
 clear hRV
 unfold QuotedPost at HIQ
 simp only at HIQ
 have hb0:=below_alloc w (.cells #[.int .i64 k,.string (st t),.slice ko kl.length kc,.slice o is.length c] 26)
 have HB0:=hq hb0
 have HW0:=hq (Whole.made w 26 #[.int .i64 k,.string (st t),.slice ko kl.length kc,.slice o is.length c])
 clear hb0
 go_enter Tryz.func22,Tryz.ntmps22
 go_upto_region 1 with fail
 generalize w.heap.size=g at HW0
 generalize (w.alloc (.cells #[.int .i64 k,.string (st t),.slice ko kl.length kc,.slice o is.length c] 26))=V0 at *
 obtain⟨c0,c1,c2,c3⟩:=four_cells HW0.o
 go_wp2_with fail
 refine(HRI.o V0 HB0.o).mono ?_
 rintro e w1 ⟨rfl,hb1⟩
 have HB1:=hq (below_trans HB0.o hb1)
 have HW1:=hq (HW0.o.grow hb1)
 obtain⟨d0,d1,d2,d3⟩:=four_cells HW1.o
 clear HRI hb1 c0 c1 c2 c3
 by_cases hr:rightM X=true
 case neg=>
  have HU:=hq (HP.o ([],1) w1 (by rw[HWM.o,if_neg hr]) HB1.o)
  have hr':rightM X=false:=Bool.not_eq_true _▸hr
  rw[hr']
  clear HP HCM HWM HBA HRS HSF HIQ hr HCO hr'
  go_wp2_with fail
  first
   |exact HU.o
   |(go_ret2
     exact HU.o)
 case pos=>
  have hc:CM=(PB,0):=by rw[HCM.o,if_pos hr]
  have HW2:=hq (HWM.o.trans (if_pos hr))
  have HS2:=hq (HSF.o hr)
  have HI2:=hq (fun h=>HIQ.o h hr)
  subst hc
  rw[hr]
  clear HCM HWM HSF HIQ hr
  by_cases h4:k=4
  ·have e1:(k !=4)=false:=by rw[h4];rfl
   rw[if_pos h4]at HW2
   have HI3:=hq (HI2.o h4)
   clear h4 HS2 HI2 HCO
   cases BL with
   |false=>
    have HU:=hq (fun W' h=>HP.o (IQ,0) W' (by rw[HW2.o,if_neg (fun h=>by cases h.1)]) h)
    clear HP HW2 HRS
    go_wp2_with fail
    refine(HBA.o _).mono ?_
    rintro e w2 ⟨rfl,hb2⟩
    have HB2:=hq (below_trans HB1.o hb2)
    have HW3:=hq (HW1.o.grow hb2)
    clear d0 d1 d2 d3 hb2 HBA
    obtain⟨d0,d1,d2,d3⟩:=four_cells HW3.o
    go_wp2_with fail
    refine(HI3.o _).mono ?_
    rintro e w3 ⟨rfl,hb3⟩
    have HB3:=hq (below_trans HB2.o hb3)
    clear d0 d1 d2 d3 hb3 HI3
    go_wp2_with fail
    first
     |exact HU.o _ HB3.o
     |(go_ret2
       exact HU.o _ HB3.o)
   |true=>
    obtain⟨rk,rt,rks,ris⟩:=RV
    have hfd: ∀W:World,(Instr.field 26 (.agg #[.int .i64 rk,.string (st rt),.slice none 0 0,.slice none 0 0]) 0).run Tryz.prog W= .ok (.int .i64 rk) W:=fun _=>by kernel_rfl
    by_cases hrk:rk=4
    ·have HU:=hq (fun W' h=>HP.o (t,0) W' (by rw[HW2.o,if_pos ⟨rfl,hrk⟩]) h)
     have e2:(rk==4)=true:=by rw[hrk];rfl
     clear HP HW2 hrk HI3
     go_wp2_with fail
     refine(HBA.o _).mono ?_
     rintro e w2 ⟨rfl,hb2⟩
     have HB2:=hq (below_trans HB1.o hb2)
     have HW3:=hq (HW1.o.grow hb2)
     clear d0 d1 d2 d3 hb2 HBA
     obtain⟨d0,d1,d2,d3⟩:=four_cells HW3.o
     go_wp2_with fail
     refine(HRS.o _).mono ?_
     rintro e w3 ⟨rfl,hb3⟩
     have HB3:=hq (below_trans HB2.o hb3)
     have HW4:=hq (HW3.o.grow hb3)
     clear d0 d1 d2 d3 hb3 HRS
     obtain⟨d0,d1,d2,d3⟩:=four_cells HW4.o
     simp only[Vl.k,Vl.t]
     go_wp2_with fail
     first
      |exact HU.o _ HB3.o
      |(go_ret2
        exact HU.o _ HB3.o)
    ·have HU:=hq (fun W' h=>HP.o (IQ,0) W' (by rw[HW2.o,if_neg (fun h=>hrk h.2)]) h)
     have e2:(rk==4)=false:=beq_eq_false_iff_ne.2 hrk
     clear HP HW2 hrk
     go_wp2_with fail
     refine(HBA.o _).mono ?_
     rintro e w2 ⟨rfl,hb2⟩
     have HB2:=hq (below_trans HB1.o hb2)
     have HW3:=hq (HW1.o.grow hb2)
     clear d0 d1 d2 d3 hb2 HBA
     obtain⟨d0,d1,d2,d3⟩:=four_cells HW3.o
     go_wp2_with fail
     refine(HRS.o _).mono ?_
     rintro e w3 ⟨rfl,hb3⟩
     have HB3:=hq (below_trans HB2.o hb3)
     have HW4:=hq (HW3.o.grow hb3)
     clear d0 d1 d2 d3 hb3 HRS
     obtain⟨d0,d1,d2,d3⟩:=four_cells HW4.o
     simp only[Vl.k,Vl.t]
     go_wp2_with fail
     refine(HI3.o _).mono ?_
     rintro e w4 ⟨rfl,hb4⟩
     have HB4:=hq (below_trans HB3.o hb4)
     clear d0 d1 d2 d3 hb4 HI3
     go_wp2_with fail
     first
      |exact HU.o _ HB4.o
      |(go_ret2
        exact HU.o _ HB4.o)
  ·have e1:(k !=4)=true:=bne_iff_ne.2 h4
   rw[if_neg h4]at HW2
   have HU:=hq (fun W' h=>HP.o (SF,0) W' HW2.o h)
   clear HP HW2 HBA HRS HI2 h4
   unfold TextP at HCO
   go_wp2_with fail
   refine(HCO.o _ HB1.o).mono ?_
   rintro e w2 ⟨rfl,hb2⟩
   have HB2:=hq (below_trans HB1.o hb2)
   clear d0 d1 d2 d3 hb2 HCO
   go_wp2_with fail
   refine(HS2.o _).mono ?_
   rintro e w3 ⟨rfl,hb3⟩
   have HB3:=hq (below_trans HB2.o hb3)
   clear hb3 HS2
   go_wp2_with fail
   first
    |exact HU.o _ HB3.o
    |(go_ret2
      exact HU.o _ HB3.o)
end Go.Proofs.YtkafjblfjdpdaaaGreatDoor
namespace Go.Proofs.YtkafjblfjdpdaaaGreatDoor
open Go.RowKit
theorem clone_fine {x:Vt} {V:World} (hx:Fine x V)(hw:x.m.weight≤1000000):Calls Tryz.prog 20 #[x.v] V fun e W=> ∃y:Vt,e= .returned y.v∧(Fine y W∧y.m=x.m)∧Below V.heap.size V W:=
 (clone_any x V hx.ok hw).mono fun e W ⟨y,h1,h2,h3,h4⟩=>⟨y,h1,⟨⟨h2.ok (by rw[h3];exact hx.ok.rng),by rw[h3];exact hx.lim,by rw[h3];exact hx.sz⟩,h3⟩,h4⟩
end Go.Proofs.YtkafjblfjdpdaaaGreatDoor
namespace Go.Proofs.YtkafjblfjdpdaaaGreatDoor
open Go.RowKit
set_option maxHeartbeats 32000000 in
set_option maxRecDepth 1000000 in
theorem ywrites_law(x:Vt)(s:ByteArray)(w:World)(hE:Env w)(hm:mx w)(_hs:s.size≤maxLen)(hx:x.Ok w):Calls Tryz.prog 4 #[x.v,.string s] w (BPost true w):=by
 have HSM:Hq (∀V,Below w.heap.size w V→Calls Tryz.prog 8 #[] V (fun e W'=>e= .returned (.bool true)∧Below V.heap.size V W')):=hq (fun V h=>small11_any V (hE.grow h) (mx_grow hm h))
 have HFX:=hq (fun V (hV:Below w.heap.size w V)=>few1_any x 300 V (hx.grow hV) (by decide))
 have hpr: ∀(hf:FewV x.m 300) V (hV:Below w.heap.size w V),Pri x V:=fun hf V hV=>few_priY (hx.grow hV) hf (by decide)
 have HCL:=hq (fun (hf:FewV x.m 300) V (hV:Below w.heap.size w V)=>clone_fine (hpr hf V hV).fine (Nat.le_trans hf.wt (by decide)))
 have HW1:=hq (fun (hf:FewV x.m 300) V (hV:Below w.heap.size w V)=>ywrite_any x V (hE.grow hV) (mx_grow hm hV) (hpr hf V hV))
 have HW2:=hq (fun (hf:FewV x.m 300) V (hV:Below w.heap.size w V)=>rwrite_any x V (hpr hf V hV))
 have HK1:=hq (fun (h4:s.size≤2048) V (hV:Below w.heap.size w V)=>ywkey_any s V (hE.grow hV).tab (mx_grow hm hV) (by omega))
 have HK2:=hq (fun (h4:s.size≤2048) V (_:Below w.heap.size w V)=>rwkey_any s V (by omega))
 have HEQ:Hq (∀(y:Vt) V,Below w.heap.size w V→y.Ok V→y.m=x.m→Calls Tryz.prog 11 #[x.v,y.v] V (BPost true V)):=hq (fun y V hV hy hm=>(equal_any x y V (hx.grow hV) hy).mono fun e W ⟨v,h1,h2,h3⟩=>⟨by rw[h1,h2.2 hm.symm],h3⟩)
 have HFI:Hq (∀W',Below w.heap.size w W'→BPost true w (.returned (.bool true)) W'):=hq (fun W' h=>⟨rfl,h⟩)
 generalize BPost true w=PP at *
 unfold StrPost at HK1 HK2
 unfold TextP at HW1 HW2
 generalize writeL x.m=WL at *
 obtain⟨wb,we⟩:=WL
 generalize writeKeyL s.data.toList=KL at *
 obtain⟨kb,ke⟩:=KL
 simp only at HK1 HK2 HW1 HW2
 clear hE hm hx hpr
 obtain⟨k,t,⟨ko,kc,kl⟩,o,c,is⟩:=x
 rw[Vt.v_mk']at *
 generalize (Vt.mk k t ⟨ko,kc,kl⟩ o c is).m=M at *
 have HB0:=hq (below_alloc w (.cells #[.int .i64 k,.string (st t),.slice ko kl.length kc,.slice o is.length c] 26))
 have HC0:=hq (Whole.made w 26 #[.int .i64 k,.string (st t),.slice ko kl.length kc,.slice o is.length c])
 go_enter Tryz.func4,Tryz.ntmps4
 go_upto_region 1 with fail
 generalize w.heap.size=g at HC0
 generalize (w.alloc (.cells #[.int .i64 k,.string (st t),.slice ko kl.length kc,.slice o is.length c] 26))=V0 at *
 have hVC:=hq (fun wr (hb:Below V0.heap.size V0 wr)=>HC0.o.grow hb)
 clear HC0
 have HV0:=hq (Below.refl V0.heap.size V0)
 go_wp2_with fail
 refine(HSM.o V0 HB0.o).mono ?_
 rintro e w1 ⟨rfl,hb⟩
 have HV1:=hq (below_trans HV0.o hb)
 have HB1:=hq (below_trans HB0.o hb)
 clear hb HV0 HB0 HSM
 obtain⟨a0,a1,a2,a3⟩:=four_cells (hVC.o w1 HV1.o)
 go_wp2_with fail
 refine(HFX.o w1 HB1.o).mono ?_
 rintro e w2 ⟨fx,rfl,hfx,hb⟩
 have HV2:=hq (below_trans HV1.o hb)
 have HB2:=hq (below_trans HB1.o hb)
 have HHX:=hq hfx
 clear hb HV1 HB1 a0 a1 a2 a3 HFX hfx
 cases fx with
 |false=>
  have HV:=hq (HFI.o w2 HB2.o)
  clear HFI HCL HW1 HW2 HK1 HK2 HEQ HHX
  go_wp2_with fail
  first|exact HV.o|(go_ret;exact HV.o)
 |true=>
 by_cases hz:2048<s.size
 ·have hz1:(2048:Int)<(s.size:Int):=by omega
  have HV:=hq (HFI.o w2 HB2.o)
  clear HFI HCL HW1 HW2 HK1 HK2 HEQ HHX
  go_wp2_with fail
  first|exact HV.o|(go_ret;exact HV.o)
 have hz1: ¬(2048:Int)<(s.size:Int):=by omega
 have HF:=hq (HHX.o rfl)
 have hz2:s.size≤2048:=by omega
 have HCL':=hq (HCL.o HF.o)
 have HW1':=hq (HW1.o HF.o)
 have HW2':=hq (HW2.o HF.o)
 have HK1':=hq (HK1.o hz2)
 have HK2':=hq (HK2.o hz2)
 clear HHX HF HCL HW1 HW2 HK1 HK2 hz hz2
 obtain⟨a0,a1,a2,a3⟩:=four_cells (hVC.o w2 HV2.o)
 go_wp2_with fail
 refine(HCL'.o w2 HB2.o).mono ?_
 rintro e w3 ⟨y,rfl,⟨hyf,hym⟩,hb⟩
 have HV3:=hq (below_trans HV2.o hb)
 have HB3:=hq (below_trans HB2.o hb)
 have HYF:=hq hyf.ok
 have HYM:=hq hym
 clear hb HV2 HB2 a0 a1 a2 a3 HCL' hyf hym
 obtain⟨k',t',⟨ko',kc',kl'⟩,o',c',is'⟩:=y
 have HEQ':=hq (fun V (h1:Below w.heap.size w V) (h2:Below w3.heap.size w3 V)=>HEQ.o _ V h1 (HYF.o.grow h2) HYM.o)
 clear HEQ HYF HYM
 rw[Vt.v_mk']at *
 go_upto_region 6 with fail
 have hba:=below_alloc w3 (.cells #[.int .i64 k',.string (st t'),.slice ko' kl'.length kc',.slice o' is'.length c'] 26)
 have HV4:=hq (below_trans HV3.o hba)
 have HB4:=hq (below_trans HB3.o hba)
 have HYW:=hq (Whole.made w3 26 #[.int .i64 k',.string (st t'),.slice ko' kl'.length kc',.slice o' is'.length c'])
 have HEQ2:=hq (fun V (h1:Below w.heap.size w V) h2=>HEQ'.o V h1 (below_trans hba h2))
 clear hba HV3 HB3 HEQ'
 generalize w3.heap.size=gy at *
 generalize w3.alloc (.cells #[.int .i64 k',.string (st t'),.slice ko' kl'.length kc',.slice o' is'.length c'] 26)=w4 at *
 obtain⟨a0,a1,a2,a3⟩:=four_cells (hVC.o w4 HV4.o)
 go_wp2_with fail
 refine(HW1'.o w4 HB4.o).mono ?_
 rintro e w5 ⟨rfl,hb⟩
 have HV5:=hq (below_trans HV4.o hb)
 have HB5:=hq (below_trans HB4.o hb)
 have HS5:=hq hb
 clear hb HV4 HB4 a0 a1 a2 a3 HW1'
 obtain⟨a0,a1,a2,a3⟩:=four_cells (hVC.o w5 HV5.o)
 go_wp2_with fail
 refine(HW2'.o w5 HB5.o).mono ?_
 rintro e w6 ⟨rfl,hb⟩
 have HV6:=hq (below_trans HV5.o hb)
 have HB6:=hq (below_trans HB5.o hb)
 have HS6:=hq (below_trans HS5.o hb)
 clear hb HV5 HB5 HS5 a0 a1 a2 a3 HW2'
 go_wp2_with fail
 refine(HK1'.o w6 HB6.o).mono ?_
 rintro e w7 ⟨rfl,hb⟩
 have HV7:=hq (below_trans HV6.o hb)
 have HB7:=hq (below_trans HB6.o hb)
 have HS7:=hq (below_trans HS6.o hb)
 clear hb HV6 HB6 HS6 HK1'
 go_wp2_with fail
 refine(HK2'.o w7 HB7.o).mono ?_
 rintro e w8 ⟨rfl,hb⟩
 have HV8:=hq (below_trans HV7.o hb)
 have HB8:=hq (below_trans HB7.o hb)
 have HS8:=hq (below_trans HS7.o hb)
 clear hb HV7 HB7 HS7 HK2'
 have t1:((st wb).toList==(st wb).toList)=true:=beq_self_eq_true _
 have t2:(we==we)=true:=beq_self_eq_true _
 have t3:((st kb).toList==(st kb).toList)=true:=beq_self_eq_true _
 have t4:(ke==ke)=true:=beq_self_eq_true _
 obtain⟨a0,a1,a2,a3⟩:=four_cells (hVC.o w8 HV8.o)
 obtain⟨b0,b1,b2,b3⟩:=four_cells (HYW.o.grow HS8.o)
 go_wp2_with fail
 refine(HEQ2.o w8 HB8.o HS8.o).mono ?_
 rintro e w9 ⟨rfl,hb⟩
 have HV:=hq (HFI.o w9 (below_trans HB8.o hb))
 clear HFI HEQ2 hb a0 a1 a2 a3 b0 b1 b2 b3
 go_wp2_with fail
 first|exact HV.o|(go_ret;exact HV.o)
end Go.Proofs.YtkafjblfjdpdaaaGreatDoor
