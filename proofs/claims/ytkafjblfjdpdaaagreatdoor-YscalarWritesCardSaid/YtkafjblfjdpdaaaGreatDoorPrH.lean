/-
  WALKS: the document's text of a value.
-/
import Derived.Test.YtkafjblfjdpdaaaGreatDoorPrG
import Derived.Test.YtkafjblfjdpdaaaGreatDoorQuoteR
namespace Go.Proofs.YtkafjblfjdpdaaaGreatDoor
open Go.RowKit
theorem cell_ltH {w:World} {a:Addr} {v:Value} (h:w.cell? a=some v):a.block<w.heap.size:=by
 by_cases hb:a.block<w.heap.size
 ·exact hb
 ·unfold World.cell? at h
  rw[Array.getElem?_eq_none (by omega)]at h
  cases h
theorem mk_one(c:UInt8):(⟨#[c]⟩:ByteArray)=st [c]:=rfl
def StrP(b:Bs)(w:World)(e:Ending)(w':World):Prop:=e= .returned (.string (st b))∧Below w.heap.size w w'
set_option maxHeartbeats 16000000 in
set_option maxRecDepth 1000000 in
theorem rtlist5T(n lev:Nat)(hn:n≤8)(hlv:lev≤999)(t:Bs)(ko:Option Addr)(kc:Nat)(kl:List Bs)(o:Option Addr)(c:Nat)(is:List Vt)(xs:List Bs)(w:World)(hok:(Vt.mk 5 t ⟨ko,kc,kl⟩ o c is).Ok w)(hil:xs.length=is.length)
 (hsz:(commaB (lnB true n (lev+1)) xs).length≤900000000) (hxs: ∀x∈xs,x.length≤900000000)
 (hih: ∀(j:Nat) (hj:j<is.length) (hjx:j<xs.length) (W:World),Below w.heap.size w W→Calls Tryz.prog 96 #[is[j].v,.int .i64 (n:Int),.int .i64 ((lev:Int)+1)] W (StrP xs[j] W)):
 Calls Tryz.prog 96 #[.agg #[.int .i64 5,.string (st t),.slice ko kl.length kc,.slice o is.length c],.int .i64 (n:Int),.int .i64 (lev:Int)] w (StrP (listB true n lev 91 93 xs) w):=by
 have hn':=hok.hl
 have hc:=hok.hc
 have hkc:=hok.hks.cp
 have hkcl:=hok.hks.le
 unfold maxLen at hc hkc
 (try simp only at hkc hkcl)
 have HOK:=hq hok
 have HIH:=hq hih
 have HXS:=hq hxs
 have HIL:=hq hil
 have hzl:(xs).length=is.length:=hil
 have hm1:n*(lev+1)≤8*1000:=Nat.mul_le_mul hn (by omega)
 have hm0:n*lev≤8*1000:=Nat.mul_le_mul hn (by omega)
 have hmi1:(n:Int)*((lev:Int)+1)=((n*(lev+1):Nat):Int):=by simp
 have hmi0:(n:Int)*(lev:Int)=((n*lev:Nat):Int):=by simp
 have hwr1:IntKind.i64.wrap ((n*(lev+1):Nat):Int)=((n*(lev+1):Nat):Int):=IntWalk.i64_in _ (by omega)
 have hwr0:IntKind.i64.wrap ((n*lev:Nat):Int)=((n*lev:Nat):Int):=IntWalk.i64_in _ (by omega)
 have HLN:Hq (lnB true n (lev+1)=10::List.replicate (n*(lev+1)) 32):=hq (by unfold lnB;rw[if_pos rfl])
 have HLV:Hq (lnB true n lev=10::List.replicate (n*lev) 32):=hq (by unfold lnB;rw[if_pos rfl])
 obtain⟨m1,hm1e⟩: ∃m,n*(lev+1)=m:=⟨_,rfl⟩
 obtain⟨m0,hm0e⟩: ∃m,n*lev=m:=⟨_,rfl⟩
 rw[hm1e]at hm1 hmi1 hwr1 HLN
 rw[hm0e]at hm0 hmi0 hwr0 HLV
 have hng:0≤(n:Int):=by omega
 have HBU:=hq (fun W=>rblanks m1 W (by omega))
 have HBV:=hq (fun W=>rblanks m0 W (by omega))
 clear hm1e hm0e
 have HTK:Hq (∀(j:Nat) (hj:j<(xs).length),commaB (lnB true n (lev+1)) ((xs).take (j+1))=commaB (lnB true n (lev+1)) ((xs).take j)++(if j=0 then [] else [44])++lnB true n (lev+1)++(xs)[j]):=hq (fun j hj=>commaB_take hj)
 have HZL:=hq hzl
 have HUP:Hq (∀j,(commaB (lnB true n (lev+1)) ((xs).take j)).length≤900000000):=hq (fun j=>Nat.le_trans (commaB_upto _ _ j) hsz)
 have HAL:Hq (commaB (lnB true n (lev+1)) ((xs).take is.length)=commaB (lnB true n (lev+1)) (xs)):=hq (by rw[←hzl,List.take_length])
 have HNE:Hq (0<is.length→(xs)≠ []):=hq (fun h e=>by rw[e]at hzl;simp only[List.length_nil]at hzl;omega)
 have HNL:Hq (is.length=0→(xs)=[]):=hq (fun h=>List.length_eq_zero_iff.1 (by rw[hzl];exact h))
 have HP0:Hq (∀(q:Bs) W',listB true n lev 91 93 (xs)=q→Below w.heap.size w W'→StrP (listB true n lev 91 93 (xs)) w (.returned (.string (st q))) W'):=hq (fun q W' h1 h2=>by rw[h1];exact⟨rfl,h2⟩)
 have HP1:Hq (∀(q:ByteArray) W',q=st (listB true n lev 91 93 (xs))→Below w.heap.size w W'→StrP (listB true n lev 91 93 (xs)) w (.returned (.string q)) W'):=hq (fun q W' h1 h2=>by rw[h1];exact⟨rfl,h2⟩)
 generalize StrP (listB true n lev 91 93 (xs)) w=PP at *
 have hb0:=below_alloc w (.cells #[.int .i64 5,.string (st t),.slice ko kl.length kc,.slice o is.length c] 26)
 have HB0:=hq hb0
 have HW0:=hq (Whole.made w 26 #[.int .i64 5,.string (st t),.slice ko kl.length kc,.slice o is.length c])
 obtain⟨c0,c1,c2,c3⟩:=four_cells HW0.o
 clear hok hih hb0 hxs hsz hil hzl
 go_enter Tryz.func96,Tryz.ntmps96
 go_upto_region 1 with fail
 generalize w.heap.size=g at c0 c1 c2 c3 HW0
 generalize (w.alloc (.cells #[.int .i64 5,.string (st t),.slice ko kl.length kc,.slice o is.length c] 26))=V0 at *
 have hVg:=hq (fun W (h:Below V0.heap.size V0 W)=>four_cells (HW0.o.grow h))
 clear HW0
 by_cases hz0:is.length=0
 ·have hz1:((is.length:Int)==0)=true:=by rw[hz0];rfl
  have HV:=hq (HP0.o [91,93] V0 (by rw[HNL.o hz0];rfl) HB0.o)
  clear HP0 HP1 HTK HUP HAL HNE HNL HIH HOK HXS
  go_wp2_with fail
  first
   |exact HV.o
   |(go_ret
     exact HV.o)
   |trace_state
 have hz1:((is.length:Int)==0)=false:=beq_eq_false_iff_ne.2 (by omega)
 have HNI:=hq (HNE.o (by omega))
 clear HNE HNL HP0
 go_wp2_with fail
 go_loopw [11,12,13,14] (fun a u _ _ wr=> ∃(j:Nat) (S:ByteArray),j≤is.length∧a= .string S∧u= .int .i64 (j:Int)∧S.size≤900000001∧Hq (S=st (91::commaB (lnB true n (lev+1)) ((xs).take j)))∧Hq (Below V0.heap.size V0 wr)) (fun _ u _ _ _=>is.length-(intOf u).toNat)
 case atStart=>exact⟨0,⟨#[91]⟩,Nat.zero_le _,rfl,rfl,by decide,hq rfl,hq (Below.refl _ _)⟩
 case round=>
  obtain⟨j,S,hj,rfl,rfl,hS,HS,hbq⟩:=hrel
  have hb:=hbq.o
  clear hbq c0 c1 c2 c3
  obtain⟨c0,c1,c2,c3⟩:=hVg.o wr hb
  by_cases h:j<is.length
  ·have hz:(j:Int)<(is.length:Int):=by omega
   have hjx:j<xs.length:=by have:=HIL.o;omega
   have HIX:=hq (fun W (hW:Below V0.heap.size V0 W)=>HIH.o j h hjx W (below_trans HB0.o hW))
   obtain⟨bi,f,ho,hit⟩:=HOK.o.at_ j h
   have hCG:Hq (∀W,Below V0.heap.size V0 W→W.cell? ⟨bi,f+j*4,none⟩=some (.int .i64 is[j].k)∧W.cell? ⟨bi,f+j*4+1,none⟩=some (.string (st is[j].t))∧W.cell? ⟨bi,f+j*4+2,none⟩=some is[j].ks.v∧W.cell? ⟨bi,f+j*4+3,none⟩=some is[j].row):=hq (fun W hW=>by
    obtain⟨a0,a1,a2,a3⟩:=hit.grow (below_trans HB0.o hW)
    exact⟨a0,a1,a2,a3⟩)
   obtain⟨i0,i1,i2,i3⟩:=hCG.o wr hb
   have hX0:(st (xs[j]'hjx)).size≤900000000:=by rw[st_size];exact HXS.o _ (List.getElem_mem hjx)
   have HSU:(st (91::commaB (lnB true n (lev+1)) ((xs).take (j+1)))).size≤900000001:=by rw[st_size,List.length_cons];have:=HUP.o (j+1);omega
   have HSU':=hq HSU
   have hjz0:j<(xs).length:=by have:=HZL.o;omega
   have HTJ:=hq (HTK.o j hjz0)
   clear HSU hit
   generalize xs[j]'hjx=X1 at *
   clear HTK HZL HIH HAL HNI HUP HOK HXS
   generalize is[j]=x at *
   subst ho
   by_cases hj0:j=0
   ·have HNX:Hq ((((S++⟨#[10]⟩)++st (List.replicate m1 32))++st X1)=st (91::commaB (lnB true n (lev+1)) ((xs).take (j+1)))):=hq (by
     rw[HTJ.o,if_pos hj0,HS.o,HLN.o]
     simp only[mk_one,cat_st]
     simp)
    have hg: ¬(0<(j:Int)):=by omega
    clear hj0 HTJ
    go_wp2_with fail
    refine(HBU.o _).mono ?_
    rintro e v1 ⟨rfl,hv1⟩
    have hbs:(st (List.replicate m1 32)).size≤8000:=by rw[st_size,List.length_replicate];omega
    generalize st (List.replicate m1 32)=B1 at *
    replace hb:=below_trans hb hv1
    clear hv1 c0 c1 c2 c3 i0 i1 i2 i3
    obtain⟨c0,c1,c2,c3⟩:=hVg.o v1 hb
    obtain⟨i0,i1,i2,i3⟩:=hCG.o v1 hb
    go_wp2_with fail
    refine(HIX.o _ hb).mono ?_
    rintro e v3 ⟨rfl,hv3⟩
    generalize st X1=X2 at *
    replace hb:=below_trans hb hv3
    clear hv3 c0 c1 c2 c3 i0 i1 i2 i3
    go_wp2_with fail
    go_roundw
    case rel=>exact⟨j+1,_,h,rfl,int_eq (by omega),by rw[HNX.o];exact HSU'.o,HNX,hq hb⟩
    case measure=>(try simp[intOf]);omega
   ·have HNX:Hq (((((S++⟨#[44]⟩)++⟨#[10]⟩)++st (List.replicate m1 32))++st X1)=st (91::commaB (lnB true n (lev+1)) ((xs).take (j+1)))):=hq (by
     rw[HTJ.o,if_neg hj0,HS.o,HLN.o]
     simp only[mk_one,cat_st]
     simp)
    have hg:(0<(j:Int)):=by omega
    clear hj0 HTJ
    go_wp2_with fail
    refine(HBU.o _).mono ?_
    rintro e v1 ⟨rfl,hv1⟩
    have hbs:(st (List.replicate m1 32)).size≤8000:=by rw[st_size,List.length_replicate];omega
    generalize st (List.replicate m1 32)=B1 at *
    replace hb:=below_trans hb hv1
    clear hv1 c0 c1 c2 c3 i0 i1 i2 i3
    obtain⟨c0,c1,c2,c3⟩:=hVg.o v1 hb
    obtain⟨i0,i1,i2,i3⟩:=hCG.o v1 hb
    go_wp2_with fail
    refine(HIX.o _ hb).mono ?_
    rintro e v3 ⟨rfl,hv3⟩
    generalize st X1=X2 at *
    replace hb:=below_trans hb hv3
    clear hv3 c0 c1 c2 c3 i0 i1 i2 i3
    go_wp2_with fail
    go_roundw
    case rel=>exact⟨j+1,_,h,rfl,int_eq (by omega),by rw[HNX.o];exact HSU'.o,HNX,hq hb⟩
    case measure=>(try simp[intOf]);omega
  ·have hz: ¬(j:Int)<(is.length:Int):=by omega
   have hjl:j=is.length:=by omega
   have HFN:Hq ((((S++⟨#[10]⟩)++st (List.replicate m0 32))++⟨#[93]⟩)=st (listB true n lev 91 93 (xs))):=hq (by
    rw[HS.o,hjl,HAL.o]
    unfold listB
    rw[if_neg HNI.o,HLV.o]
    simp only[mk_one,cat_st]
    simp)
   clear hjl HTK HIH HAL HNI HUP HOK HXS HS
   go_wp2_with fail
   refine(HBV.o _).mono ?_
   rintro e v1 ⟨rfl,hv1⟩
   have hbs:(st (List.replicate m0 32)).size≤8000:=by rw[st_size,List.length_replicate];omega
   generalize st (List.replicate m0 32)=B1 at *
   replace hb:=below_trans hb hv1
   clear hv1 c0 c1 c2 c3
   go_wp2_with fail
   first
    |exact HP1.o _ _ HFN.o (below_trans HB0.o hb)
    |(go_ret
      exact HP1.o _ _ HFN.o (below_trans HB0.o hb))
    |trace_state
set_option maxHeartbeats 16000000 in
set_option maxRecDepth 1000000 in
theorem rtlist5F(n lev:Nat)(_:n≤8)(hlv:lev≤999)(t:Bs)(ko:Option Addr)(kc:Nat)(kl:List Bs)(o:Option Addr)(c:Nat)(is:List Vt)(xs:List Bs)(w:World)(hok:(Vt.mk 5 t ⟨ko,kc,kl⟩ o c is).Ok w)(hil:xs.length=is.length)
 (hsz:(commaB (lnB false n (lev+1)) xs).length≤900000000) (hxs: ∀x∈xs,x.length≤900000000)
 (hih: ∀(j:Nat) (hj:j<is.length) (hjx:j<xs.length) (W:World),Below w.heap.size w W→Calls Tryz.prog 96 #[is[j].v,.int .i64 (-1),.int .i64 ((lev:Int)+1)] W (StrP xs[j] W)):
 Calls Tryz.prog 96 #[.agg #[.int .i64 5,.string (st t),.slice ko kl.length kc,.slice o is.length c],.int .i64 (-1),.int .i64 (lev:Int)] w (StrP (listB false n lev 91 93 xs) w):=by
 have hn':=hok.hl
 have hc:=hok.hc
 have hkc:=hok.hks.cp
 have hkcl:=hok.hks.le
 unfold maxLen at hc hkc
 (try simp only at hkc hkcl)
 have HOK:=hq hok
 have HIH:=hq hih
 have HXS:=hq hxs
 have HIL:=hq hil
 have hzl:(xs).length=is.length:=hil
 have HTK:Hq (∀(j:Nat) (hj:j<(xs).length),commaB (lnB false n (lev+1)) ((xs).take (j+1))=commaB (lnB false n (lev+1)) ((xs).take j)++(if j=0 then [] else [44])++lnB false n (lev+1)++(xs)[j]):=hq (fun j hj=>commaB_take hj)
 have HZL:=hq hzl
 have HUP:Hq (∀j,(commaB (lnB false n (lev+1)) ((xs).take j)).length≤900000000):=hq (fun j=>Nat.le_trans (commaB_upto _ _ j) hsz)
 have HAL:Hq (commaB (lnB false n (lev+1)) ((xs).take is.length)=commaB (lnB false n (lev+1)) (xs)):=hq (by rw[←hzl,List.take_length])
 have HNE:Hq (0<is.length→(xs)≠ []):=hq (fun h e=>by rw[e]at hzl;simp only[List.length_nil]at hzl;omega)
 have HNL:Hq (is.length=0→(xs)=[]):=hq (fun h=>List.length_eq_zero_iff.1 (by rw[hzl];exact h))
 have HP0:Hq (∀(q:Bs) W',listB false n lev 91 93 (xs)=q→Below w.heap.size w W'→StrP (listB false n lev 91 93 (xs)) w (.returned (.string (st q))) W'):=hq (fun q W' h1 h2=>by rw[h1];exact⟨rfl,h2⟩)
 have HP1:Hq (∀(q:ByteArray) W',q=st (listB false n lev 91 93 (xs))→Below w.heap.size w W'→StrP (listB false n lev 91 93 (xs)) w (.returned (.string q)) W'):=hq (fun q W' h1 h2=>by rw[h1];exact⟨rfl,h2⟩)
 generalize StrP (listB false n lev 91 93 (xs)) w=PP at *
 have hb0:=below_alloc w (.cells #[.int .i64 5,.string (st t),.slice ko kl.length kc,.slice o is.length c] 26)
 have HB0:=hq hb0
 have HW0:=hq (Whole.made w 26 #[.int .i64 5,.string (st t),.slice ko kl.length kc,.slice o is.length c])
 obtain⟨c0,c1,c2,c3⟩:=four_cells HW0.o
 clear hok hih hb0 hxs hsz hil hzl
 go_enter Tryz.func96,Tryz.ntmps96
 go_upto_region 1 with fail
 generalize w.heap.size=g at c0 c1 c2 c3 HW0
 generalize (w.alloc (.cells #[.int .i64 5,.string (st t),.slice ko kl.length kc,.slice o is.length c] 26))=V0 at *
 have hVg:=hq (fun W (h:Below V0.heap.size V0 W)=>four_cells (HW0.o.grow h))
 clear HW0
 by_cases hz0:is.length=0
 ·have hz1:((is.length:Int)==0)=true:=by rw[hz0];rfl
  have HV:=hq (HP0.o [91,93] V0 (by rw[HNL.o hz0];rfl) HB0.o)
  clear HP0 HP1 HTK HUP HAL HNE HNL HIH HOK HXS
  go_wp2_with fail
  first
   |exact HV.o
   |(go_ret
     exact HV.o)
   |trace_state
 have hz1:((is.length:Int)==0)=false:=beq_eq_false_iff_ne.2 (by omega)
 have HNI:=hq (HNE.o (by omega))
 clear HNE HNL HP0
 go_wp2_with fail
 go_loopw [11,12,13,14] (fun a u _ _ wr=> ∃(j:Nat) (S:ByteArray),j≤is.length∧a= .string S∧u= .int .i64 (j:Int)∧S.size≤900000001∧Hq (S=st (91::commaB (lnB false n (lev+1)) ((xs).take j)))∧Hq (Below V0.heap.size V0 wr)) (fun _ u _ _ _=>is.length-(intOf u).toNat)
 case atStart=>exact⟨0,⟨#[91]⟩,Nat.zero_le _,rfl,rfl,by decide,hq rfl,hq (Below.refl _ _)⟩
 case round=>
  obtain⟨j,S,hj,rfl,rfl,hS,HS,hbq⟩:=hrel
  have hb:=hbq.o
  clear hbq c0 c1 c2 c3
  obtain⟨c0,c1,c2,c3⟩:=hVg.o wr hb
  by_cases h:j<is.length
  ·have hz:(j:Int)<(is.length:Int):=by omega
   have hjx:j<xs.length:=by have:=HIL.o;omega
   have HIX:=hq (fun W (hW:Below V0.heap.size V0 W)=>HIH.o j h hjx W (below_trans HB0.o hW))
   obtain⟨bi,f,ho,hit⟩:=HOK.o.at_ j h
   have hCG:Hq (∀W,Below V0.heap.size V0 W→W.cell? ⟨bi,f+j*4,none⟩=some (.int .i64 is[j].k)∧W.cell? ⟨bi,f+j*4+1,none⟩=some (.string (st is[j].t))∧W.cell? ⟨bi,f+j*4+2,none⟩=some is[j].ks.v∧W.cell? ⟨bi,f+j*4+3,none⟩=some is[j].row):=hq (fun W hW=>by
    obtain⟨a0,a1,a2,a3⟩:=hit.grow (below_trans HB0.o hW)
    exact⟨a0,a1,a2,a3⟩)
   obtain⟨i0,i1,i2,i3⟩:=hCG.o wr hb
   have hX0:(st (xs[j]'hjx)).size≤900000000:=by rw[st_size];exact HXS.o _ (List.getElem_mem hjx)
   have HSU:(st (91::commaB (lnB false n (lev+1)) ((xs).take (j+1)))).size≤900000001:=by rw[st_size,List.length_cons];have:=HUP.o (j+1);omega
   have HSU':=hq HSU
   have hjz0:j<(xs).length:=by have:=HZL.o;omega
   have HTJ:=hq (HTK.o j hjz0)
   clear HSU hit
   generalize xs[j]'hjx=X1 at *
   clear HTK HZL HIH HAL HNI HUP HOK HXS
   generalize is[j]=x at *
   subst ho
   by_cases hj0:j=0
   ·have HNX:Hq ((S++st X1)=st (91::commaB (lnB false n (lev+1)) ((xs).take (j+1)))):=hq (by
     rw[HTJ.o,if_pos hj0,HS.o]
     simp only[cat_st]
     simp[lnB])
    have hg: ¬(0<(j:Int)):=by omega
    clear hj0 HTJ
    go_wp2_with fail
    refine(HIX.o _ hb).mono ?_
    rintro e v3 ⟨rfl,hv3⟩
    generalize st X1=X2 at *
    replace hb:=below_trans hb hv3
    clear hv3 c0 c1 c2 c3 i0 i1 i2 i3
    go_wp2_with fail
    go_roundw
    case rel=>exact⟨j+1,_,h,rfl,int_eq (by omega),by rw[HNX.o];exact HSU'.o,HNX,hq hb⟩
    case measure=>(try simp[intOf]);omega
   ·have HNX:Hq (((S++⟨#[44]⟩)++st X1)=st (91::commaB (lnB false n (lev+1)) ((xs).take (j+1)))):=hq (by
     rw[HTJ.o,if_neg hj0,HS.o]
     simp only[mk_one,cat_st]
     simp[lnB])
    have hg:(0<(j:Int)):=by omega
    clear hj0 HTJ
    go_wp2_with fail
    refine(HIX.o _ hb).mono ?_
    rintro e v3 ⟨rfl,hv3⟩
    generalize st X1=X2 at *
    replace hb:=below_trans hb hv3
    clear hv3 c0 c1 c2 c3 i0 i1 i2 i3
    go_wp2_with fail
    go_roundw
    case rel=>exact⟨j+1,_,h,rfl,int_eq (by omega),by rw[HNX.o];exact HSU'.o,HNX,hq hb⟩
    case measure=>(try simp[intOf]);omega
  ·have hz: ¬(j:Int)<(is.length:Int):=by omega
   have hjl:j=is.length:=by omega
   have HFN:Hq ((S++⟨#[93]⟩)=st (listB false n lev 91 93 (xs))):=hq (by
    rw[HS.o,hjl,HAL.o]
    unfold listB
    rw[if_neg HNI.o]
    simp only[mk_one,cat_st]
    simp[lnB])
   clear hjl HTK HIH HAL HNI HUP HOK HXS HS
   go_wp2_with fail
   first
    |exact HP1.o _ _ HFN.o (below_trans HB0.o hb)
    |(go_ret
      exact HP1.o _ _ HFN.o (below_trans HB0.o hb))
    |trace_state
set_option maxHeartbeats 16000000 in
set_option maxRecDepth 1000000 in
theorem rtlist6T(n lev:Nat)(hn:n≤8)(hlv:lev≤999)(t:Bs)(ko:Option Addr)(kc:Nat)(kl:List Bs)(o:Option Addr)(c:Nat)(is:List Vt)(xs:List Bs)(w:World)(hok:(Vt.mk 6 t ⟨ko,kc,kl⟩ o c is).Ok w)(hil:xs.length=is.length)(hkl:kl.length=is.length)(hkx: ∀x∈kl,x.length≤1048576)
 (hsz:(commaB (lnB true n (lev+1)) (List.zipWith (memB true) kl xs)).length≤900000000) (hxs: ∀x∈xs,x.length≤900000000)
 (hih: ∀(j:Nat) (hj:j<is.length) (hjx:j<xs.length) (W:World),Below w.heap.size w W→Calls Tryz.prog 96 #[is[j].v,.int .i64 (n:Int),.int .i64 ((lev:Int)+1)] W (StrP xs[j] W)):
 Calls Tryz.prog 96 #[.agg #[.int .i64 6,.string (st t),.slice ko kl.length kc,.slice o is.length c],.int .i64 (n:Int),.int .i64 (lev:Int)] w (StrP (listB true n lev 123 125 (List.zipWith (memB true) kl xs)) w):=by
 have hn':=hok.hl
 have hc:=hok.hc
 have hkc:=hok.hks.cp
 have hkcl:=hok.hks.le
 unfold maxLen at hc hkc
 (try simp only at hkc hkcl)
 have HOK:=hq hok
 have HIH:=hq hih
 have HXS:=hq hxs
 have HIL:=hq hil
 have hzl:((List.zipWith (memB true) kl xs)).length=is.length:=by simp;omega
 have HKL:=hq hkl
 have HKX:=hq hkx
 have hm1:n*(lev+1)≤8*1000:=Nat.mul_le_mul hn (by omega)
 have hm0:n*lev≤8*1000:=Nat.mul_le_mul hn (by omega)
 have hmi1:(n:Int)*((lev:Int)+1)=((n*(lev+1):Nat):Int):=by simp
 have hmi0:(n:Int)*(lev:Int)=((n*lev:Nat):Int):=by simp
 have hwr1:IntKind.i64.wrap ((n*(lev+1):Nat):Int)=((n*(lev+1):Nat):Int):=IntWalk.i64_in _ (by omega)
 have hwr0:IntKind.i64.wrap ((n*lev:Nat):Int)=((n*lev:Nat):Int):=IntWalk.i64_in _ (by omega)
 have HLN:Hq (lnB true n (lev+1)=10::List.replicate (n*(lev+1)) 32):=hq (by unfold lnB;rw[if_pos rfl])
 have HLV:Hq (lnB true n lev=10::List.replicate (n*lev) 32):=hq (by unfold lnB;rw[if_pos rfl])
 obtain⟨m1,hm1e⟩: ∃m,n*(lev+1)=m:=⟨_,rfl⟩
 obtain⟨m0,hm0e⟩: ∃m,n*lev=m:=⟨_,rfl⟩
 rw[hm1e]at hm1 hmi1 hwr1 HLN
 rw[hm0e]at hm0 hmi0 hwr0 HLV
 have hng:0≤(n:Int):=by omega
 have HBU:=hq (fun W=>rblanks m1 W (by omega))
 have HBV:=hq (fun W=>rblanks m0 W (by omega))
 clear hm1e hm0e
 have HTK:Hq (∀(j:Nat) (hj:j<((List.zipWith (memB true) kl xs)).length),commaB (lnB true n (lev+1)) (((List.zipWith (memB true) kl xs)).take (j+1))=commaB (lnB true n (lev+1)) (((List.zipWith (memB true) kl xs)).take j)++(if j=0 then [] else [44])++lnB true n (lev+1)++((List.zipWith (memB true) kl xs))[j]):=hq (fun j hj=>commaB_take hj)
 have HZL:=hq hzl
 have HUP:Hq (∀j,(commaB (lnB true n (lev+1)) (((List.zipWith (memB true) kl xs)).take j)).length≤900000000):=hq (fun j=>Nat.le_trans (commaB_upto _ _ j) hsz)
 have HAL:Hq (commaB (lnB true n (lev+1)) (((List.zipWith (memB true) kl xs)).take is.length)=commaB (lnB true n (lev+1)) ((List.zipWith (memB true) kl xs))):=hq (by rw[←hzl,List.take_length])
 have HNE:Hq (0<is.length→((List.zipWith (memB true) kl xs))≠ []):=hq (fun h e=>by rw[e]at hzl;simp only[List.length_nil]at hzl;omega)
 have HNL:Hq (is.length=0→((List.zipWith (memB true) kl xs))=[]):=hq (fun h=>List.length_eq_zero_iff.1 (by rw[hzl];exact h))
 have HP0:Hq (∀(q:Bs) W',listB true n lev 123 125 ((List.zipWith (memB true) kl xs))=q→Below w.heap.size w W'→StrP (listB true n lev 123 125 ((List.zipWith (memB true) kl xs))) w (.returned (.string (st q))) W'):=hq (fun q W' h1 h2=>by rw[h1];exact⟨rfl,h2⟩)
 have HP1:Hq (∀(q:ByteArray) W',q=st (listB true n lev 123 125 ((List.zipWith (memB true) kl xs)))→Below w.heap.size w W'→StrP (listB true n lev 123 125 ((List.zipWith (memB true) kl xs))) w (.returned (.string q)) W'):=hq (fun q W' h1 h2=>by rw[h1];exact⟨rfl,h2⟩)
 have HIT:Hq (∀(j:Nat) (hj:j<((List.zipWith (memB true) kl xs)).length) (hjk:j<kl.length) (hjx:j<xs.length),((List.zipWith (memB true) kl xs))[j]=memB true kl[j] xs[j]):=hq (fun j hj _ _=>by rw[List.getElem_zipWith])
 generalize StrP (listB true n lev 123 125 ((List.zipWith (memB true) kl xs))) w=PP at *
 have hb0:=below_alloc w (.cells #[.int .i64 6,.string (st t),.slice ko kl.length kc,.slice o is.length c] 26)
 have HB0:=hq hb0
 have HW0:=hq (Whole.made w 26 #[.int .i64 6,.string (st t),.slice ko kl.length kc,.slice o is.length c])
 obtain⟨c0,c1,c2,c3⟩:=four_cells HW0.o
 clear hok hih hb0 hxs hsz hil hzl hkl hkx
 go_enter Tryz.func96,Tryz.ntmps96
 go_upto_region 1 with fail
 generalize w.heap.size=g at c0 c1 c2 c3 HW0
 generalize (w.alloc (.cells #[.int .i64 6,.string (st t),.slice ko kl.length kc,.slice o is.length c] 26))=V0 at *
 have hVg:=hq (fun W (h:Below V0.heap.size V0 W)=>four_cells (HW0.o.grow h))
 clear HW0
 by_cases hz0:is.length=0
 ·have hz1:((is.length:Int)==0)=true:=by rw[hz0];rfl
  have HV:=hq (HP0.o [123,125] V0 (by rw[HNL.o hz0];rfl) HB0.o)
  clear HP0 HP1 HTK HUP HAL HNE HNL HIH HOK HXS HIT
  go_wp2_with fail
  first
   |exact HV.o
   |(go_ret
     exact HV.o)
   |trace_state
 have hz1:((is.length:Int)==0)=false:=beq_eq_false_iff_ne.2 (by omega)
 have HNI:=hq (HNE.o (by omega))
 clear HNE HNL HP0
 go_wp2_with fail
 go_loopw [11,12,13,14] (fun a u _ _ wr=> ∃(j:Nat) (S:ByteArray),j≤is.length∧a= .string S∧u= .int .i64 (j:Int)∧S.size≤900000001∧Hq (S=st (123::commaB (lnB true n (lev+1)) (((List.zipWith (memB true) kl xs)).take j)))∧Hq (Below V0.heap.size V0 wr)) (fun _ u _ _ _=>is.length-(intOf u).toNat)
 case atStart=>exact⟨0,⟨#[123]⟩,Nat.zero_le _,rfl,rfl,by decide,hq rfl,hq (Below.refl _ _)⟩
 case round=>
  obtain⟨j,S,hj,rfl,rfl,hS,HS,hbq⟩:=hrel
  have hb:=hbq.o
  clear hbq c0 c1 c2 c3
  obtain⟨c0,c1,c2,c3⟩:=hVg.o wr hb
  by_cases h:j<is.length
  ·have hz:(j:Int)<(is.length:Int):=by omega
   have hjx:j<xs.length:=by have:=HIL.o;omega
   have HIX:=hq (fun W (hW:Below V0.heap.size V0 W)=>HIH.o j h hjx W (below_trans HB0.o hW))
   obtain⟨bi,f,ho,hit⟩:=HOK.o.at_ j h
   have hCG:Hq (∀W,Below V0.heap.size V0 W→W.cell? ⟨bi,f+j*4,none⟩=some (.int .i64 is[j].k)∧W.cell? ⟨bi,f+j*4+1,none⟩=some (.string (st is[j].t))∧W.cell? ⟨bi,f+j*4+2,none⟩=some is[j].ks.v∧W.cell? ⟨bi,f+j*4+3,none⟩=some is[j].row):=hq (fun W hW=>by
    obtain⟨a0,a1,a2,a3⟩:=hit.grow (below_trans HB0.o hW)
    exact⟨a0,a1,a2,a3⟩)
   obtain⟨i0,i1,i2,i3⟩:=hCG.o wr hb
   have hX0:(st (xs[j]'hjx)).size≤900000000:=by rw[st_size];exact HXS.o _ (List.getElem_mem hjx)
   have HSU:(st (123::commaB (lnB true n (lev+1)) (((List.zipWith (memB true) kl xs)).take (j+1)))).size≤900000001:=by rw[st_size,List.length_cons];have:=HUP.o (j+1);omega
   have HSU':=hq HSU
   have hjz0:j<((List.zipWith (memB true) kl xs)).length:=by have:=HZL.o;omega
   have HTJ:=hq (HTK.o j hjz0)
   clear HSU hit
   have hjk:j<kl.length:=by have:=HKL.o;omega
   have hjz:(j:Int)<(kl.length:Int):=by omega
   obtain⟨bk,fk,hko,hkt⟩:=HOK.o.hks.rd j hjk
   have hKG:Hq (∀W,Below V0.heap.size V0 W→W.cell? ⟨bk,fk+j,none⟩=some (.string (st kl[j]))):=hq (fun W hW=>((below_trans HB0.o hW).cell (cell_ltH hkt)).trans hkt)
   have hkl1:kl[j].length≤1048576:=HKX.o _ (List.getElem_mem hjk)
   have HQK:=hq (fun W=>rquote_any (st kl[j]) W (by rw[st_size];omega))
   have hql:(st (quoteM (st kl[j])).1).size≤10000000:=by
    have:=qtB_len kl[j]
    rw[st_size]
    show(qtB kl[j]).length≤_
    omega
   have HMB:=hq (HIT.o j hjz0 hjk hjx)
   have HQT:Hq (qtB kl[j]=(quoteM (st kl[j])).1):=hq rfl
   rw[HMB.o]at HTJ
   have k0:=hKG.o wr hb
   clear hkt
   simp only at hko
   subst hko
   generalize kl[j]=kj at *
   generalize quoteM (st kj)=Q at *
   obtain⟨q1,qe⟩:=Q
   simp only at hql HQT
   generalize xs[j]'hjx=X1 at *
   clear HTK HZL HIH HAL HNI HUP HOK HXS HIT HMB hkl1
   generalize is[j]=x at *
   subst ho
   by_cases hj0:j=0
   ·have HNX:Hq (((((((S++⟨#[10]⟩)++st (List.replicate m1 32))++st q1)++⟨#[58]⟩)++⟨#[32]⟩)++st X1)=st (123::commaB (lnB true n (lev+1)) (((List.zipWith (memB true) kl xs)).take (j+1)))):=hq (by
     rw[HTJ.o,if_pos hj0,HS.o,HLN.o]
     simp only[mk_one,cat_st]
     unfold memB
     rw[HQT.o]
     simp)
    have hg: ¬(0<(j:Int)):=by omega
    clear hj0 HTJ
    go_wp2_with fail
    refine(HBU.o _).mono ?_
    rintro e v1 ⟨rfl,hv1⟩
    have hbs:(st (List.replicate m1 32)).size≤8000:=by rw[st_size,List.length_replicate];omega
    generalize st (List.replicate m1 32)=B1 at *
    replace hb:=below_trans hb hv1
    clear hv1 c0 c1 c2 c3 i0 i1 i2 i3 k0
    obtain⟨c0,c1,c2,c3⟩:=hVg.o v1 hb
    obtain⟨i0,i1,i2,i3⟩:=hCG.o v1 hb
    have k0:=hKG.o v1 hb
    go_wp2_with fail
    refine(HQK.o _).mono ?_
    rintro e v2 ⟨rfl,hv2⟩
    generalize st q1=Q1 at *
    replace hb:=below_trans hb hv2
    clear hv2 c0 c1 c2 c3 i0 i1 i2 i3 k0
    obtain⟨c0,c1,c2,c3⟩:=hVg.o v2 hb
    obtain⟨i0,i1,i2,i3⟩:=hCG.o v2 hb
    have k0:=hKG.o v2 hb
    go_wp2_with fail
    refine(HIX.o _ hb).mono ?_
    rintro e v3 ⟨rfl,hv3⟩
    generalize st X1=X2 at *
    replace hb:=below_trans hb hv3
    clear hv3 c0 c1 c2 c3 i0 i1 i2 i3 k0
    go_wp2_with fail
    go_roundw
    case rel=>exact⟨j+1,_,h,rfl,int_eq (by omega),by rw[HNX.o];exact HSU'.o,HNX,hq hb⟩
    case measure=>(try simp[intOf]);omega
   ·have HNX:Hq ((((((((S++⟨#[44]⟩)++⟨#[10]⟩)++st (List.replicate m1 32))++st q1)++⟨#[58]⟩)++⟨#[32]⟩)++st X1)=st (123::commaB (lnB true n (lev+1)) (((List.zipWith (memB true) kl xs)).take (j+1)))):=hq (by
     rw[HTJ.o,if_neg hj0,HS.o,HLN.o]
     simp only[mk_one,cat_st]
     unfold memB
     rw[HQT.o]
     simp)
    have hg:(0<(j:Int)):=by omega
    clear hj0 HTJ
    go_wp2_with fail
    refine(HBU.o _).mono ?_
    rintro e v1 ⟨rfl,hv1⟩
    have hbs:(st (List.replicate m1 32)).size≤8000:=by rw[st_size,List.length_replicate];omega
    generalize st (List.replicate m1 32)=B1 at *
    replace hb:=below_trans hb hv1
    clear hv1 c0 c1 c2 c3 i0 i1 i2 i3 k0
    obtain⟨c0,c1,c2,c3⟩:=hVg.o v1 hb
    obtain⟨i0,i1,i2,i3⟩:=hCG.o v1 hb
    have k0:=hKG.o v1 hb
    go_wp2_with fail
    refine(HQK.o _).mono ?_
    rintro e v2 ⟨rfl,hv2⟩
    generalize st q1=Q1 at *
    replace hb:=below_trans hb hv2
    clear hv2 c0 c1 c2 c3 i0 i1 i2 i3 k0
    obtain⟨c0,c1,c2,c3⟩:=hVg.o v2 hb
    obtain⟨i0,i1,i2,i3⟩:=hCG.o v2 hb
    have k0:=hKG.o v2 hb
    go_wp2_with fail
    refine(HIX.o _ hb).mono ?_
    rintro e v3 ⟨rfl,hv3⟩
    generalize st X1=X2 at *
    replace hb:=below_trans hb hv3
    clear hv3 c0 c1 c2 c3 i0 i1 i2 i3 k0
    go_wp2_with fail
    go_roundw
    case rel=>exact⟨j+1,_,h,rfl,int_eq (by omega),by rw[HNX.o];exact HSU'.o,HNX,hq hb⟩
    case measure=>(try simp[intOf]);omega
  ·have hz: ¬(j:Int)<(is.length:Int):=by omega
   have hjl:j=is.length:=by omega
   have HFN:Hq ((((S++⟨#[10]⟩)++st (List.replicate m0 32))++⟨#[125]⟩)=st (listB true n lev 123 125 ((List.zipWith (memB true) kl xs)))):=hq (by
    rw[HS.o,hjl,HAL.o]
    unfold listB
    rw[if_neg HNI.o,HLV.o]
    simp only[mk_one,cat_st]
    simp)
   clear hjl HTK HIH HAL HNI HUP HOK HXS HS HIT
   go_wp2_with fail
   refine(HBV.o _).mono ?_
   rintro e v1 ⟨rfl,hv1⟩
   have hbs:(st (List.replicate m0 32)).size≤8000:=by rw[st_size,List.length_replicate];omega
   generalize st (List.replicate m0 32)=B1 at *
   replace hb:=below_trans hb hv1
   clear hv1 c0 c1 c2 c3
   go_wp2_with fail
   first
    |exact HP1.o _ _ HFN.o (below_trans HB0.o hb)
    |(go_ret
      exact HP1.o _ _ HFN.o (below_trans HB0.o hb))
    |trace_state
set_option maxHeartbeats 16000000 in
set_option maxRecDepth 1000000 in
theorem rtlist6F(n lev:Nat)(_:n≤8)(hlv:lev≤999)(t:Bs)(ko:Option Addr)(kc:Nat)(kl:List Bs)(o:Option Addr)(c:Nat)(is:List Vt)(xs:List Bs)(w:World)(hok:(Vt.mk 6 t ⟨ko,kc,kl⟩ o c is).Ok w)(hil:xs.length=is.length)(hkl:kl.length=is.length)(hkx: ∀x∈kl,x.length≤1048576)
 (hsz:(commaB (lnB false n (lev+1)) (List.zipWith (memB false) kl xs)).length≤900000000) (hxs: ∀x∈xs,x.length≤900000000)
 (hih: ∀(j:Nat) (hj:j<is.length) (hjx:j<xs.length) (W:World),Below w.heap.size w W→Calls Tryz.prog 96 #[is[j].v,.int .i64 (-1),.int .i64 ((lev:Int)+1)] W (StrP xs[j] W)):
 Calls Tryz.prog 96 #[.agg #[.int .i64 6,.string (st t),.slice ko kl.length kc,.slice o is.length c],.int .i64 (-1),.int .i64 (lev:Int)] w (StrP (listB false n lev 123 125 (List.zipWith (memB false) kl xs)) w):=by
 have hn':=hok.hl
 have hc:=hok.hc
 have hkc:=hok.hks.cp
 have hkcl:=hok.hks.le
 unfold maxLen at hc hkc
 (try simp only at hkc hkcl)
 have HOK:=hq hok
 have HIH:=hq hih
 have HXS:=hq hxs
 have HIL:=hq hil
 have hzl:((List.zipWith (memB false) kl xs)).length=is.length:=by simp;omega
 have HKL:=hq hkl
 have HKX:=hq hkx
 have HTK:Hq (∀(j:Nat) (hj:j<((List.zipWith (memB false) kl xs)).length),commaB (lnB false n (lev+1)) (((List.zipWith (memB false) kl xs)).take (j+1))=commaB (lnB false n (lev+1)) (((List.zipWith (memB false) kl xs)).take j)++(if j=0 then [] else [44])++lnB false n (lev+1)++((List.zipWith (memB false) kl xs))[j]):=hq (fun j hj=>commaB_take hj)
 have HZL:=hq hzl
 have HUP:Hq (∀j,(commaB (lnB false n (lev+1)) (((List.zipWith (memB false) kl xs)).take j)).length≤900000000):=hq (fun j=>Nat.le_trans (commaB_upto _ _ j) hsz)
 have HAL:Hq (commaB (lnB false n (lev+1)) (((List.zipWith (memB false) kl xs)).take is.length)=commaB (lnB false n (lev+1)) ((List.zipWith (memB false) kl xs))):=hq (by rw[←hzl,List.take_length])
 have HNE:Hq (0<is.length→((List.zipWith (memB false) kl xs))≠ []):=hq (fun h e=>by rw[e]at hzl;simp only[List.length_nil]at hzl;omega)
 have HNL:Hq (is.length=0→((List.zipWith (memB false) kl xs))=[]):=hq (fun h=>List.length_eq_zero_iff.1 (by rw[hzl];exact h))
 have HP0:Hq (∀(q:Bs) W',listB false n lev 123 125 ((List.zipWith (memB false) kl xs))=q→Below w.heap.size w W'→StrP (listB false n lev 123 125 ((List.zipWith (memB false) kl xs))) w (.returned (.string (st q))) W'):=hq (fun q W' h1 h2=>by rw[h1];exact⟨rfl,h2⟩)
 have HP1:Hq (∀(q:ByteArray) W',q=st (listB false n lev 123 125 ((List.zipWith (memB false) kl xs)))→Below w.heap.size w W'→StrP (listB false n lev 123 125 ((List.zipWith (memB false) kl xs))) w (.returned (.string q)) W'):=hq (fun q W' h1 h2=>by rw[h1];exact⟨rfl,h2⟩)
 have HIT:Hq (∀(j:Nat) (hj:j<((List.zipWith (memB false) kl xs)).length) (hjk:j<kl.length) (hjx:j<xs.length),((List.zipWith (memB false) kl xs))[j]=memB false kl[j] xs[j]):=hq (fun j hj _ _=>by rw[List.getElem_zipWith])
 generalize StrP (listB false n lev 123 125 ((List.zipWith (memB false) kl xs))) w=PP at *
 have hb0:=below_alloc w (.cells #[.int .i64 6,.string (st t),.slice ko kl.length kc,.slice o is.length c] 26)
 have HB0:=hq hb0
 have HW0:=hq (Whole.made w 26 #[.int .i64 6,.string (st t),.slice ko kl.length kc,.slice o is.length c])
 obtain⟨c0,c1,c2,c3⟩:=four_cells HW0.o
 clear hok hih hb0 hxs hsz hil hzl hkl hkx
 go_enter Tryz.func96,Tryz.ntmps96
 go_upto_region 1 with fail
 generalize w.heap.size=g at c0 c1 c2 c3 HW0
 generalize (w.alloc (.cells #[.int .i64 6,.string (st t),.slice ko kl.length kc,.slice o is.length c] 26))=V0 at *
 have hVg:=hq (fun W (h:Below V0.heap.size V0 W)=>four_cells (HW0.o.grow h))
 clear HW0
 by_cases hz0:is.length=0
 ·have hz1:((is.length:Int)==0)=true:=by rw[hz0];rfl
  have HV:=hq (HP0.o [123,125] V0 (by rw[HNL.o hz0];rfl) HB0.o)
  clear HP0 HP1 HTK HUP HAL HNE HNL HIH HOK HXS HIT
  go_wp2_with fail
  first
   |exact HV.o
   |(go_ret
     exact HV.o)
   |trace_state
 have hz1:((is.length:Int)==0)=false:=beq_eq_false_iff_ne.2 (by omega)
 have HNI:=hq (HNE.o (by omega))
 clear HNE HNL HP0
 go_wp2_with fail
 go_loopw [11,12,13,14] (fun a u _ _ wr=> ∃(j:Nat) (S:ByteArray),j≤is.length∧a= .string S∧u= .int .i64 (j:Int)∧S.size≤900000001∧Hq (S=st (123::commaB (lnB false n (lev+1)) (((List.zipWith (memB false) kl xs)).take j)))∧Hq (Below V0.heap.size V0 wr)) (fun _ u _ _ _=>is.length-(intOf u).toNat)
 case atStart=>exact⟨0,⟨#[123]⟩,Nat.zero_le _,rfl,rfl,by decide,hq rfl,hq (Below.refl _ _)⟩
 case round=>
  obtain⟨j,S,hj,rfl,rfl,hS,HS,hbq⟩:=hrel
  have hb:=hbq.o
  clear hbq c0 c1 c2 c3
  obtain⟨c0,c1,c2,c3⟩:=hVg.o wr hb
  by_cases h:j<is.length
  ·have hz:(j:Int)<(is.length:Int):=by omega
   have hjx:j<xs.length:=by have:=HIL.o;omega
   have HIX:=hq (fun W (hW:Below V0.heap.size V0 W)=>HIH.o j h hjx W (below_trans HB0.o hW))
   obtain⟨bi,f,ho,hit⟩:=HOK.o.at_ j h
   have hCG:Hq (∀W,Below V0.heap.size V0 W→W.cell? ⟨bi,f+j*4,none⟩=some (.int .i64 is[j].k)∧W.cell? ⟨bi,f+j*4+1,none⟩=some (.string (st is[j].t))∧W.cell? ⟨bi,f+j*4+2,none⟩=some is[j].ks.v∧W.cell? ⟨bi,f+j*4+3,none⟩=some is[j].row):=hq (fun W hW=>by
    obtain⟨a0,a1,a2,a3⟩:=hit.grow (below_trans HB0.o hW)
    exact⟨a0,a1,a2,a3⟩)
   obtain⟨i0,i1,i2,i3⟩:=hCG.o wr hb
   have hX0:(st (xs[j]'hjx)).size≤900000000:=by rw[st_size];exact HXS.o _ (List.getElem_mem hjx)
   have HSU:(st (123::commaB (lnB false n (lev+1)) (((List.zipWith (memB false) kl xs)).take (j+1)))).size≤900000001:=by rw[st_size,List.length_cons];have:=HUP.o (j+1);omega
   have HSU':=hq HSU
   have hjz0:j<((List.zipWith (memB false) kl xs)).length:=by have:=HZL.o;omega
   have HTJ:=hq (HTK.o j hjz0)
   clear HSU hit
   have hjk:j<kl.length:=by have:=HKL.o;omega
   have hjz:(j:Int)<(kl.length:Int):=by omega
   obtain⟨bk,fk,hko,hkt⟩:=HOK.o.hks.rd j hjk
   have hKG:Hq (∀W,Below V0.heap.size V0 W→W.cell? ⟨bk,fk+j,none⟩=some (.string (st kl[j]))):=hq (fun W hW=>((below_trans HB0.o hW).cell (cell_ltH hkt)).trans hkt)
   have hkl1:kl[j].length≤1048576:=HKX.o _ (List.getElem_mem hjk)
   have HQK:=hq (fun W=>rquote_any (st kl[j]) W (by rw[st_size];omega))
   have hql:(st (quoteM (st kl[j])).1).size≤10000000:=by
    have:=qtB_len kl[j]
    rw[st_size]
    show(qtB kl[j]).length≤_
    omega
   have HMB:=hq (HIT.o j hjz0 hjk hjx)
   have HQT:Hq (qtB kl[j]=(quoteM (st kl[j])).1):=hq rfl
   rw[HMB.o]at HTJ
   have k0:=hKG.o wr hb
   clear hkt
   simp only at hko
   subst hko
   generalize kl[j]=kj at *
   generalize quoteM (st kj)=Q at *
   obtain⟨q1,qe⟩:=Q
   simp only at hql HQT
   generalize xs[j]'hjx=X1 at *
   clear HTK HZL HIH HAL HNI HUP HOK HXS HIT HMB hkl1
   generalize is[j]=x at *
   subst ho
   by_cases hj0:j=0
   ·have HNX:Hq ((((S++st q1)++⟨#[58]⟩)++st X1)=st (123::commaB (lnB false n (lev+1)) (((List.zipWith (memB false) kl xs)).take (j+1)))):=hq (by
     rw[HTJ.o,if_pos hj0,HS.o]
     simp only[mk_one,cat_st]
     unfold memB
     rw[HQT.o]
     simp[lnB])
    have hg: ¬(0<(j:Int)):=by omega
    clear hj0 HTJ
    go_wp2_with fail
    refine(HQK.o _).mono ?_
    rintro e v2 ⟨rfl,hv2⟩
    generalize st q1=Q1 at *
    replace hb:=below_trans hb hv2
    clear hv2 c0 c1 c2 c3 i0 i1 i2 i3 k0
    obtain⟨c0,c1,c2,c3⟩:=hVg.o v2 hb
    obtain⟨i0,i1,i2,i3⟩:=hCG.o v2 hb
    have k0:=hKG.o v2 hb
    go_wp2_with fail
    refine(HIX.o _ hb).mono ?_
    rintro e v3 ⟨rfl,hv3⟩
    generalize st X1=X2 at *
    replace hb:=below_trans hb hv3
    clear hv3 c0 c1 c2 c3 i0 i1 i2 i3 k0
    go_wp2_with fail
    go_roundw
    case rel=>exact⟨j+1,_,h,rfl,int_eq (by omega),by rw[HNX.o];exact HSU'.o,HNX,hq hb⟩
    case measure=>(try simp[intOf]);omega
   ·have HNX:Hq (((((S++⟨#[44]⟩)++st q1)++⟨#[58]⟩)++st X1)=st (123::commaB (lnB false n (lev+1)) (((List.zipWith (memB false) kl xs)).take (j+1)))):=hq (by
     rw[HTJ.o,if_neg hj0,HS.o]
     simp only[mk_one,cat_st]
     unfold memB
     rw[HQT.o]
     simp[lnB])
    have hg:(0<(j:Int)):=by omega
    clear hj0 HTJ
    go_wp2_with fail
    refine(HQK.o _).mono ?_
    rintro e v2 ⟨rfl,hv2⟩
    generalize st q1=Q1 at *
    replace hb:=below_trans hb hv2
    clear hv2 c0 c1 c2 c3 i0 i1 i2 i3 k0
    obtain⟨c0,c1,c2,c3⟩:=hVg.o v2 hb
    obtain⟨i0,i1,i2,i3⟩:=hCG.o v2 hb
    have k0:=hKG.o v2 hb
    go_wp2_with fail
    refine(HIX.o _ hb).mono ?_
    rintro e v3 ⟨rfl,hv3⟩
    generalize st X1=X2 at *
    replace hb:=below_trans hb hv3
    clear hv3 c0 c1 c2 c3 i0 i1 i2 i3 k0
    go_wp2_with fail
    go_roundw
    case rel=>exact⟨j+1,_,h,rfl,int_eq (by omega),by rw[HNX.o];exact HSU'.o,HNX,hq hb⟩
    case measure=>(try simp[intOf]);omega
  ·have hz: ¬(j:Int)<(is.length:Int):=by omega
   have hjl:j=is.length:=by omega
   have HFN:Hq ((S++⟨#[125]⟩)=st (listB false n lev 123 125 ((List.zipWith (memB false) kl xs)))):=hq (by
    rw[HS.o,hjl,HAL.o]
    unfold listB
    rw[if_neg HNI.o]
    simp only[mk_one,cat_st]
    simp[lnB])
   clear hjl HTK HIH HAL HNI HUP HOK HXS HS HIT
   go_wp2_with fail
   first
    |exact HP1.o _ _ HFN.o (below_trans HB0.o hb)
    |(go_ret
      exact HP1.o _ _ HFN.o (below_trans HB0.o hb))
    |trace_state
end Go.Proofs.YtkafjblfjdpdaaaGreatDoor
