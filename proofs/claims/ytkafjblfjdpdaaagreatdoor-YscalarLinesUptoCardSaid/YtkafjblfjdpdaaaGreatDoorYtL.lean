/-
  WALK: the law YscalarBack.
  WALK: the small cases of layer 10; spans and lines held beside each other.
  WALK: the law YscalarLines.
-/
import Derived.Test.YtkafjblfjdpdaaaGreatDoorYsP
import Derived.Test.YtkafjblfjdpdaaaGreatDoorPrM
import Derived.Test.YtkafjblfjdpdaaaGreatDoorYsY
import Derived.Test.YtkafjblfjdpdaaaGreatDoorYsD
import Derived.Test.YtkafjblfjdpdaaaGreatDoorYsX
import Derived.Laws.BitsLemmas
namespace Go.Proofs.YtkafjblfjdpdaaaGreatDoor
open Go.RowKit
theorem safe_len: ∀(l:Bs) (p:UInt8),(safeL p l).length≤6*l.length
 | [],_=>Nat.le_refl _
 |c::l,p=>by
  have:=safe_len l c
  rw[safeL,List.length_append,List.length_cons]
  split
  ·simp only[List.length_cons,List.length_nil];omega
  ·split
   ·simp only[List.length_cons,List.length_nil];omega
   ·simp only[List.length_cons,List.length_nil];omega
theorem inQ_len(s:Bs):(inQ s (qtB s)).length≤36*s.length+20:=by
 unfold inQ
 split
 ·unfold quotedM
  split
  ·have:=dblB_len s
   rw[st_list]
   simp only[List.length_append,List.length_cons,List.length_nil]
   omega
  ·exact Nat.zero_le _
 ·have h1:=safe_len (qtB s) 0
  have h2:=qtB_len s
  omega
theorem wkey_len(s:Bs):(writeKeyL s).1.length≤36*s.length+20:=by
 unfold writeKeyL
 split
 ·simp only
  split
  ·omega
  ·exact inQ_len s
 ·exact Nat.zero_le _
end Go.Proofs.YtkafjblfjdpdaaaGreatDoor
namespace Go.Proofs.YtkafjblfjdpdaaaGreatDoor
open Go.RowKit
theorem eq_span(a b a' b':Int): ∀W:World,(Op.equalIn 10000 44 (.agg #[.int .i64 a,.int .i64 b]) (.agg #[.int .i64 a',.int .i64 b'])).run Tryz.prog W= .ok ((a==a')&&(b==b')) W:=by
 intro W
 have h23:=Tryz.underlying44
 have hst2:Tryz.prog.stoodInHeld 44=false:=by kernel_rfl
 go_simp
 by_cases h1:a=a'<;>by_cases h2:b=b'<;>simp[h1,h2]
theorem ys1:lineM ⟨#[32,32,97,58,32,98,32,35,32,99]⟩ 0 10=(⟨4,0,10,2,2,3,5,6,7,10⟩,10,0):=by kernel_rfl
end Go.Proofs.YtkafjblfjdpdaaaGreatDoor
namespace Go.Proofs.YtkafjblfjdpdaaaGreatDoor
open Go.RowKit
theorem i64_and7Y(n:Int):bits .and .i64 n 7=n%8:=by
 have h7:(BitVec.ofInt 64 7).toNat=2^3-1:=by decide
 have key:(BitVec.ofInt 64 n&&&BitVec.ofInt 64 7).toNat=(n%((2^64:Nat):Int)).toNat%2^3:=by
  rw[BitVec.toNat_and,BitVec.toNat_ofInt,h7,Nat.and_two_pow_sub_one_eq_mod]
 show IntKind.i64.wrap ((BitVec.ofInt 64 n&&&BitVec.ofInt 64 7).toNat:Nat)=n%8
 rw[key,IntKind.wrap_i64]
 omega
abbrev eightB:ByteArray:=⟨#[32,32,32,32,32,32,32,32]⟩
theorem blanksY: ∀n:Fin 8,(eightB.extract 0 n.val).data.toList=List.replicate n.val 32:=by decide+kernel
theorem eight_st {n:Nat} (h:n≤7):eightB.extract 0 n=st (List.replicate n 32):=by
 rw[←blanksY ⟨n,by omega⟩]
structure Ent(n:Nat)(kb wb:Bs)(T:ByteArray)(p1 p2:Nat):Prop where
 is:eightB.extract 0 n++st kb++⟨#[58,32]⟩++st wb=T
 key:T.extract n p1=st kb
 rest:T.extract p2 T.size=st wb
 h1:n≤p1
 h2:p1≤p2
 h3:p2≤T.size
 sz:T.size≤4294967296
 z1:(eightB.extract 0 n).size+(st kb).size≤4294967296
 z2:(eightB.extract 0 n++st kb).size+(⟨#[58,32]⟩:ByteArray).size≤4294967296
 z3:(eightB.extract 0 n++st kb++⟨#[58,32]⟩).size+(st wb).size≤4294967296
 ln:lineM T 0 (T.size:Int)=(⟨4,0,T.size,n,n,p1,p2,T.size,0,0⟩,(T.size:Int),0)
theorem ent_made {n:Nat} {kb wb:Bs} (hn:n≤7)(hk:LineT kb)(hk2:QtT kb∨bareL kb=true)(h:LineT wb)(hl:QtT wb∨NoQt wb)(zk:kb.length≤1073741824)(zw:wb.length≤1073741824): ∃T p1 p2,Ent n kb wb T p1 p2:=by
 have hll:=line_entry hk hk2 h hl n
 have hz:(st (List.replicate n 32++(kb++(58::32::wb)))).size=n+kb.length+2+wb.length:=by
  rw[st_size]
  simp only[List.length_append,List.length_replicate,List.length_cons]
  omega
 have he:eightB.extract 0 n++st kb++⟨#[58,32]⟩++st wb=st (List.replicate n 32++(kb++(58::32::wb))):=by
  rw[eight_st hn,show(⟨#[58,32]⟩:ByteArray)=st [58,32] from rfl,cat_bytes,cat_bytes,cat_bytes]
  congr 1
  simp
 have hr:=st_cut (List.replicate n 32) kb (58::32::wb)
 rw[List.length_replicate]at hr
 have hr2:=st_cut (List.replicate n 32++(kb++[58,32])) wb []
 have e2:List.replicate n (32:UInt8)++(kb++[58,32])++(wb++[])=List.replicate n 32++(kb++(58::32::wb)):=by simp
 rw[e2]at hr2
 have e3:(List.replicate n (32:UInt8)++(kb++[58,32])).length=n+kb.length+2:=by
  simp only[List.length_append,List.length_replicate,List.length_cons,List.length_nil]
  omega
 rw[e3]at hr2
 have e4:n+kb.length+2+wb.length=(st (List.replicate n 32++(kb++(58::32::wb)))).size:=hz.symm
 rw[e4]at hr2
 have hes:(eightB.extract 0 n).size=n:=by rw[eight_st hn,st_size,List.length_replicate]
 have h58:(⟨#[58,32]⟩:ByteArray).size=2:=rfl
 refine⟨st (List.replicate n 32++(kb++(58::32::wb))),n+kb.length,n+kb.length+2,he,hr,hr2,by omega,by omega,by omega,by omega,?_,?_,?_,?_⟩
 ·rw[hes,st_size];omega
 ·rw[ByteArray.size_append,hes,st_size,h58];omega
 ·rw[ByteArray.size_append,ByteArray.size_append,hes,h58,st_size kb,st_size wb];omega
 ·rw[hll]
  unfold lineR
  simp
structure Itm(n:Nat)(wb:Bs)(T:ByteArray)(p2:Nat):Prop where
 is:eightB.extract 0 n++⟨#[45,32]⟩++st wb=T
 rest:T.extract p2 T.size=st wb
 h3:p2≤T.size
 sz:T.size≤4294967296
 z1:(eightB.extract 0 n).size+(⟨#[45,32]⟩:ByteArray).size≤4294967296
 z3:(eightB.extract 0 n++⟨#[45,32]⟩).size+(st wb).size≤4294967296
 ln:lineM T 0 (T.size:Int)=(⟨3,0,T.size,n,0,0,p2,T.size,0,0⟩,(T.size:Int),0)
theorem itm_made {n:Nat} {wb:Bs} (hn:n≤7)(h:LineT wb)(hl:QtT wb∨NoQt wb)(zw:wb.length≤1073741824): ∃T p2,Itm n wb T p2:=by
 have hll:=line_item h hl n
 have hz:(st (List.replicate n 32++(45::32::wb))).size=n+2+wb.length:=by
  rw[st_size]
  simp only[List.length_append,List.length_replicate,List.length_cons]
  omega
 have he:eightB.extract 0 n++⟨#[45,32]⟩++st wb=st (List.replicate n 32++(45::32::wb)):=by
  rw[eight_st hn,show(⟨#[45,32]⟩:ByteArray)=st [45,32] from rfl,cat_bytes,cat_bytes]
  congr 1
  simp
 have hr2:=st_cut (List.replicate n 32++[45,32]) wb []
 have e2:List.replicate n (32:UInt8)++[45,32]++(wb++[])=List.replicate n 32++(45::32::wb):=by simp
 rw[e2]at hr2
 have e3:(List.replicate n (32:UInt8)++[45,32]).length=n+2:=by
  simp only[List.length_append,List.length_replicate,List.length_cons,List.length_nil]
 rw[e3]at hr2
 have e4:n+2+wb.length=(st (List.replicate n 32++(45::32::wb))).size:=hz.symm
 rw[e4]at hr2
 have hes:(eightB.extract 0 n).size=n:=by rw[eight_st hn,st_size,List.length_replicate]
 have h58:(⟨#[45,32]⟩:ByteArray).size=2:=rfl
 refine⟨st (List.replicate n 32++(45::32::wb)),n+2,he,hr2,by omega,by omega,?_,?_,?_⟩
 ·rw[hes,h58];omega
 ·rw[ByteArray.size_append,hes,h58,st_size wb];omega
 ·rw[hll]
  unfold lineR
  simp
set_option maxHeartbeats 32000000 in
set_option maxRecDepth 1000000 in
theorem ylines_law(x:Vt)(s:ByteArray)(nd:Int)(w:World)(hE:Env w)(hm:mx w)(hx:x.Ok w)(hbk:x.m.blk≤1048576)(hs:s.size≤1048576):Calls Tryz.prog 6 #[x.v,.string s,.int .i64 nd] w (BPost true w):=by
 have hst:st s.data.toList=s:=ba_ext (by simp)
 have hxt:x.m.t=x.t:=by
  obtain⟨k,t,ks,o,c,is⟩:=x
  rw[Vt.m_mk]
  rfl
 have hlim:=(blk_lim x.m hbk).here
 have htl:x.t.length≤1048576:=by rw[←hxt];exact hlim.1
 have hpz:(prB false 0 0 x.m).length≤8388608:=by have:=prB_blk 0 x.m 0;omega
 have HSM:Hq (∀V,Below w.heap.size w V→Calls Tryz.prog 8 #[] V (fun e W'=>e= .returned (.bool true)∧Below V.heap.size V W')):=hq (fun V h=>small11_any V (hE.grow h) (mx_grow hm h))
 have HFX:=hq (fun V (hV:Below w.heap.size w V)=>few1_any x 200 V (hx.grow hV) (by decide))
 have HWR:=hq (fun V (hV:Below w.heap.size w V)=>ywriteB_any x V (hE.grow hV) (mx_grow hm hV) ⟨hx.grow hV,blk_lim x.m hbk,by have:=blk_size x.m;omega⟩ htl (by omega))
 have HWK:=hq (fun V (hV:Below w.heap.size w V)=>ywkey_any s V (hE.grow hV).tab (mx_grow hm hV) (by omega))
 have HLN:=hq (fun (T:ByteArray) (hT:T.size≤4294967296) V (hV:Below w.heap.size w V)=>yline_any T 0 (T.size:Int) V (hE.grow hV).tab (by omega) (by omega) (by omega))
 have HWZ:Hq ((writeL x.m).2=0→LineT (writeL x.m).1∧(QtT (writeL x.m).1∨NoQt (writeL x.m).1)∧(writeL x.m).1.length≤1073741824):=hq (fun h=>by
  have hr:rightM x.m=true:=by
   by_cases hr:rightM x.m=true
   ·exact hr
   ·unfold writeL at h
    rw[if_neg hr]at h
    exact absurd h (by decide)
  obtain⟨h1,h2⟩:=write_line hr
  refine⟨h1,h2,?_⟩
  unfold writeL
  rw[if_pos hr]
  simp only
  split
  ·split
   ·rw[hxt];omega
   ·unfold inQ
    split
    ·unfold quotedM
     split
     ·have:=dblB_len (st x.m.t).data.toList
      rw[st_list]at this
      rw[st_list]
      simp only[List.length_append,List.length_cons,List.length_nil]
      rw[hxt]at this ⊢
      omega
     ·exact Nat.zero_le _
    ·have:=safe_len (prB false 0 0 x.m) 0
     omega
  ·have:=safe_len (prB false 0 0 x.m) 0
   omega)
 have HKZ:Hq ((writeKeyL s.data.toList).2=0→LineT (writeKeyL s.data.toList).1∧(QtT (writeKeyL s.data.toList).1∨bareL (writeKeyL s.data.toList).1=true)∧(writeKeyL s.data.toList).1.length≤1073741824):=hq (fun h=>by
  have hv:(valid (st s.data.toList)).2=true:=by
   by_cases hr:(valid (st s.data.toList)).2=true
   ·exact hr
   ·unfold writeKeyL at h
    rw[if_neg hr]at h
    exact absurd h (show¬((2:Int)=0) by decide)
  obtain⟨h1,h2⟩:=key_line hv
  refine⟨h1,h2,?_⟩
  have:=wkey_len s.data.toList
  have hl:s.data.toList.length=s.size:=Array.length_toList
  omega)
 have HFI:Hq (∀W',Below w.heap.size w W'→BPost true w (.returned (.bool true)) W'):=hq (fun W' h=>⟨rfl,h⟩)
 generalize BPost true w=PP at *
 unfold StrPost at HWK
 unfold TextP at HWR
 unfold LinePost at HLN
 generalize writeL x.m=WL at *
 obtain⟨wb,we⟩:=WL
 generalize writeKeyL s.data.toList=KL at *
 obtain⟨kb,ke⟩:=KL
 simp only at HWK HWR HWZ HKZ
 clear hE hm hx hbk hst hxt hlim htl hpz
 obtain⟨k,t,⟨ko,kc,kl⟩,o,c,is⟩:=x
 rw[Vt.v_mk']at *
 generalize (Vt.mk k t ⟨ko,kc,kl⟩ o c is).m=M at *
 have HB0:=hq (below_alloc w (.cells #[.int .i64 k,.string (st t),.slice ko kl.length kc,.slice o is.length c] 26))
 have HC0:=hq (Whole.made w 26 #[.int .i64 k,.string (st t),.slice ko kl.length kc,.slice o is.length c])
 go_enter Tryz.func6,Tryz.ntmps6
 go_upto_region 1 with fail
 generalize w.heap.size=g at HC0
 generalize (w.alloc (.cells #[.int .i64 k,.string (st t),.slice ko kl.length kc,.slice o is.length c] 26))=V0 at *
 have hVC:=hq (fun wr (hb:Below V0.heap.size V0 wr)=>HC0.o.grow hb)
 clear HC0
 have HV0:=hq (Below.refl V0.heap.size V0)
 go_wp2_with fail
 refine(HSM.o V0 HB0.o).mono ?_
 rintro e w1 ⟨rfl,hb⟩
 have HV1:=hq (below_trans HV0.o hb)
 have HB1:=hq (below_trans HB0.o hb)
 clear hb HV0 HB0 HSM
 obtain⟨a0,a1,a2,a3⟩:=four_cells (hVC.o w1 HV1.o)
 go_wp2_with fail
 refine(HFX.o w1 HB1.o).mono ?_
 rintro e w2 ⟨fx,rfl,hfx,hb⟩
 have HV2:=hq (below_trans HV1.o hb)
 have HB2:=hq (below_trans HB1.o hb)
 clear hb HV1 HB1 a0 a1 a2 a3 HFX hfx
 obtain⟨a0,a1,a2,a3⟩:=four_cells (hVC.o w2 HV2.o)
 go_wp2_with fail
 refine(HWR.o w2 HB2.o).mono ?_
 rintro e w3 ⟨rfl,hb⟩
 have HB3:=hq (below_trans HB2.o hb)
 clear hb HV2 HB2 a0 a1 a2 a3 HWR hVC
 go_wp2_with fail
 refine(HWK.o w3 HB3.o).mono ?_
 rintro e w4 ⟨rfl,hb⟩
 have HB4:=hq (below_trans HB3.o hb)
 clear hb HB3 HWK
 cases fx with
 |false=>
  have HV:=hq (HFI.o w4 HB4.o)
  clear HFI HLN HWZ HKZ
  go_wp2_with fail
  first|exact HV.o|(go_ret;exact HV.o)
 |true=>
 by_cases hz:1024<s.size
 ·have hz1:(1024:Int)<(s.size:Int):=by omega
  have HV:=hq (HFI.o w4 HB4.o)
  clear HFI HLN HWZ HKZ
  go_wp2_with fail
  first|exact HV.o|(go_ret;exact HV.o)
 have hz1: ¬(1024:Int)<(s.size:Int):=by omega
 clear hz
 by_cases hw0:we=0
 case neg=>
  have e1:(we !=0)=true:=bne_iff_ne.2 hw0
  have HV:=hq (HFI.o w4 HB4.o)
  clear HFI HLN HWZ HKZ hw0
  go_wp2_with fail
  first|exact HV.o|(go_ret;exact HV.o)
 by_cases hk0:ke=0
 case neg=>
  have e1:(we !=0)=false:=by rw[hw0];rfl
  have e2:(ke !=0)=true:=bne_iff_ne.2 hk0
  have HV:=hq (HFI.o w4 HB4.o)
  clear HFI HLN HWZ HKZ hk0 hw0
  go_wp2_with fail
  first|exact HV.o|(go_ret;exact HV.o)
 obtain⟨wl1,wl2,wl3⟩:=HWZ.o hw0
 obtain⟨kl1,kl2,kl3⟩:=HKZ.o hk0
 subst hw0 hk0
 obtain⟨n,hn,hn7⟩: ∃n:Nat,nd%8=(n:Int)∧n≤7:=⟨(nd%8).toNat,by omega,by omega⟩
 have hb7:bits BinOp.and .i64 nd 7=(n:Int):=(i64_and7Y nd).trans hn
 obtain⟨T1,p1,p2,hT1⟩:=ent_made hn7 kl1 kl2 wl1 wl2 kl3 wl3
 obtain⟨T2,q2,hT2⟩:=itm_made hn7 wl1 wl2 wl3
 have HL1:=hq (fun V hV=>HLN.o T1 hT1.sz V hV)
 have HL2:=hq (fun V hV=>HLN.o T2 hT2.sz V hV)
 rw[hT1.ln]at HL1
 rw[hT2.ln]at HL2
 have HI1:=hq hT1.is
 have HI2:=hq hT2.is
 have zz1:=hT1.z1
 have zz2:=hT1.z2
 have zz3:=hT1.z3
 have zz4:=hT2.z1
 have zz5:=hT2.z3
 have zs1:=hT1.sz
 have zs2:=hT2.sz
 have zp1:=hT1.h1
 have zp2:=hT1.h2
 have zp3:=hT1.h3
 have zp4:=hT2.h3
 have HT1:Hq ((T1.extract n p1).toList=kb):=hq (by rw[hT1.key];simp)
 have HT2:Hq ((T1.extract p2 T1.size).toList=wb):=hq (by rw[hT1.rest];simp)
 have HT3:Hq ((T2.extract q2 T2.size).toList=wb):=hq (by rw[hT2.rest];simp)
 have hn8:(n:Int)≤8:=by omega
 clear HWZ HKZ HLN wl1 wl2 wl3 kl1 kl2 kl3 hn hT1 hT2
 dsimp only[LineR.val]at HL1 HL2
 dsimp only[eightB]at zz1 zz2 zz3 zz4 zz5 HI1 HI2
 go_upto_region 10 with fail
 rw[HI1.o]
 clear zz1 zz2 zz3 HI1
 go_wp2_with fail
 refine(HL1.o w4 HB4.o).mono ?_
 rintro e w5 ⟨rfl,hb⟩
 go_upto_region 11 with fail
 have hb6:=below_alloc w5 (.cells #[.int .i64 4,.int .i64 0,.int .i64 (T1.size:Int),.int .i64 (n:Int),.int .i64 (n:Int),.int .i64 (p1:Int),.int .i64 (p2:Int),.int .i64 (T1.size:Int),.int .i64 0,.int .i64 0] 46)
 have HX6:=hq (Whole.made w5 46 #[.int .i64 4,.int .i64 0,.int .i64 (T1.size:Int),.int .i64 (n:Int),.int .i64 (n:Int),.int .i64 (p1:Int),.int .i64 (p2:Int),.int .i64 (T1.size:Int),.int .i64 0,.int .i64 0])
 have HB6:=hq (below_trans HB4.o (below_trans hb hb6))
 clear hb hb6 HB4 HL1
 generalize (w5.alloc (.cells #[.int .i64 4,.int .i64 0,.int .i64 (T1.size:Int),.int .i64 (n:Int),.int .i64 (n:Int),.int .i64 (p1:Int),.int .i64 (p2:Int),.int .i64 (T1.size:Int),.int .i64 0,.int .i64 0] 46))=w6 at *
 generalize w5.heap.size=gx at *
 go_upto_region 12 with fail
 rw[HI2.o]
 clear zz4 zz5 HI2
 go_wp2_with fail
 refine(HL2.o w6 HB6.o).mono ?_
 rintro e w7 ⟨rfl,hb⟩
 go_upto_region 13 with fail
 have hb8:=below_alloc w7 (.cells #[.int .i64 3,.int .i64 0,.int .i64 (T2.size:Int),.int .i64 (n:Int),.int .i64 0,.int .i64 0,.int .i64 (q2:Int),.int .i64 (T2.size:Int),.int .i64 0,.int .i64 0] 46)
 have HZ8:=hq (Whole.made w7 46 #[.int .i64 3,.int .i64 0,.int .i64 (T2.size:Int),.int .i64 (n:Int),.int .i64 0,.int .i64 0,.int .i64 (q2:Int),.int .i64 (T2.size:Int),.int .i64 0,.int .i64 0])
 have HX8:=hq (HX6.o.grow (below_trans hb hb8))
 have HB8:=hq (below_trans HB6.o (below_trans hb hb8))
 clear hb hb8 HB6 HL2 HX6
 generalize (w7.alloc (.cells #[.int .i64 3,.int .i64 0,.int .i64 (T2.size:Int),.int .i64 (n:Int),.int .i64 0,.int .i64 0,.int .i64 (q2:Int),.int .i64 (T2.size:Int),.int .i64 0,.int .i64 0] 46))=w8 at *
 generalize w7.heap.size=gz at *
 have t4:((n:Int) !=(n:Int))=false:=bne_self_eq_false _
 have x0:=HX8.o.at_ 0
 have x3:=HX8.o.at_ 3
 have z0:=HZ8.o.at_ 0
 have z3:=HZ8.o.at_ 3
 go_upto_region 16 with fail
 have hb9:=below_alloc w8 (.cells #[.int .i64 0,.int .i64 0] 44)
 have HN9:=hq (Whole.made w8 44 #[.int .i64 0,.int .i64 0])
 have HX9:=hq (HX8.o.grow hb9)
 have HZ9:=hq (HZ8.o.grow hb9)
 have HV:=hq (HFI.o _ (below_trans HB8.o hb9))
 clear hb9 HX8 HZ8 HB8 HFI x0 x3 z0 z3 t4
 generalize (w8.alloc (.cells #[.int .i64 0,.int .i64 0] 44))=w9 at *
 generalize w8.heap.size=gs at *
 have x4:=HX9.o.at_ 4
 have x5:=HX9.o.at_ 5
 have x6:=HX9.o.at_ 6
 have x7:=HX9.o.at_ 7
 have x8:=HX9.o.at_ 8
 have x9:=HX9.o.at_ 9
 have z6:=HZ9.o.at_ 6
 have z7:=HZ9.o.at_ 7
 have z8:=HZ9.o.at_ 8
 have z9:=HZ9.o.at_ 9
 have s0:=HN9.o.at_ 0
 have s1:=HN9.o.at_ 1
 have E2: ∀W:World,(Op.equalIn 10000 44 (.agg #[.int .i64 0,.int .i64 0]) (.agg #[.int .i64 0,.int .i64 0])).run Tryz.prog W= .ok true W:=fun W=>by rw[eq_span];rfl
 have t1:=HT1.o
 have t2:=HT2.o
 have t3:=HT3.o
 go_wp2_with fail
 first|exact HV.o|(go_ret;exact HV.o)
end Go.Proofs.YtkafjblfjdpdaaaGreatDoor
