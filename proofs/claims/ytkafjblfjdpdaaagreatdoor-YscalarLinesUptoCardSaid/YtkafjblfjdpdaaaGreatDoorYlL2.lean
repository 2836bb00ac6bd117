/-
  WALKS: yline.Line: an item, no key.
-/
import Derived.Test.YtkafjblfjdpdaaaGreatDoorYlL1
namespace Go.Proofs.YtkafjblfjdpdaaaGreatDoor
open Go.RowKit
set_option maxHeartbeats 4000000 in
set_option maxRecDepth 1000000 in
theorem yl_C(s:ByteArray)(a b p:Nat)(V:LineR×Int×Int)(w:World)(hT:tabs w)(hs:s.size≤1099511627776)(hab:a≤b)(hbs:b≤s.size)
 (hlf:hasLF (s.extract a b)=false) (hcl:cleanM (s.extract a b) true=(s.extract a b).size) (hp:blk (s.extract 0 b) a=p) (hpl:p≤b) (hpg:a≤p) (hlt:p<b)
 (hB:byt (s.extract 0 b) p≠35) (hC:sgn (s.extract 0 b) p 45=true) (hV:V=(lineR a b p (3,none,restM (s.extract 0 b) (p+1)),(b:Int),0)):
 Calls Tryz.prog 27 #[.string s,.agg #[.int .i64 (a:Int),.int .i64 (b:Int)]] w (LinePost V w):=by
 have hBA:=(below_alloc w (.cells #[.int .i64 (a:Int),.int .i64 (b:Int)] 44)).alloc (by simp) (.cells zero10 46)
 have hX1:=(Whole.made w 44 #[.int .i64 (a:Int),.int .i64 (b:Int)]).alloc (.cells zero10 46)
 have hX2:=Whole.made (w.alloc (.cells #[.int .i64 (a:Int),.int .i64 (b:Int)] 44)) 46 zero10
 rw[World.size_alloc]at hX2
 have HT:=hq (tabs_grow hT hBA)
 have HBA:=hq hBA
 have HX1:=hq hX1
 have HX2:=hq hX2
 have hwz:((w.alloc (.cells #[.int .i64 (a:Int),.int .i64 (b:Int)] 44)).alloc (.cells zero10 46)).heap.size=w.heap.size+1+1:=by simp
 have HWZ:=hq hwz
 clear hT hBA hX1 hX2 hwz
 have huz:(s.extract 0 b).size=b:=by rw[ByteArray.size_extract];omega
 have HUZ:=hq huz
 have HCT:=hq (fun W=>Tryz.strings_Contains_one (s.extract a b) 10 W)
 have hlf2:hasLF (s.extract a b)=decide (0≤Lib.indexByte (s.extract a b).data.toList 10):=rfl
 rw[←hlf2,hlf]at HCT
 have HCL:=hq (fun W (hW:tabs W)=>yclean_any (s.extract a b) W hW (by rw[ByteArray.size_extract];omega))
 have hcle:(s.extract a b).size≤b:=by rw[ByteArray.size_extract];omega
 rw[decide_eq_true hcl,hcl]at HCL
 have HP:=hq hp
 have HBK:=hq (fun W=>yblanks_any (s.extract 0 b) a W (by rw[HUZ.o];omega) (by rw[HUZ.o];omega))
 rw[HP.o]at HBK
 clear huz hlf2 hlf hcl hp
 have huu:(s.extract 0 b).size=b:=by rw[ByteArray.size_extract];omega
 have hpU:p<(s.extract 0 b).size:=by omega
 have y0:(((s.extract 0 b)[p]'hpU).toNat:Int)=(byt (s.extract 0 b) p:Int):=by rw[byt_eq _ p hpU]
 have eA:((p:Int)==((s.extract 0 b).size:Int))=false:=beq_int_false (by omega)
 have eB:((byt (s.extract 0 b) p:Int)==35)=false:=beq_int_false hB
 have HSG:=hq (fun W=>ysign_any (s.extract 0 b) p 45 W (by omega) (by omega))
 rw[hC]at HSG
 obtain⟨n0',n1',hn1,hn2⟩:=noteA_is (s.extract 0 b) (restM (s.extract 0 b) (p+1)).2
 have HRS:=hq (fun W (hW:tabs W)=>yrest_any (s.extract 0 b) (p+1) W hW (by omega) (by omega))
 have hcast:(((p+1:Nat)):Int)=(p:Int)+1:=by omega
 rw[hcast]at HRS
 have HN0:=hq (lineR_note a b p 3 (none) (restM (s.extract 0 b) (p+1)) n0' n1' (by rw[huu]at hn2;exact hn2))
 have HNV:=hq hn1
 have HV:=hq hV
 clear hV hn1 hn2 hcast
 generalize restM (s.extract 0 b) (p+1)=RR at *
 obtain⟨⟨r0,r1⟩,no⟩:=RR
 have HN:Hq (V=(⟨3,a,b,(p:Int)-a,0,0,r0,r1,n0',n1'⟩,(b:Int),0)):=hq (by rw[HV.o,HN0.o];rfl)
 clear hB hC huu HN0 HV
 generalize byt (s.extract 0 b) p=cc at *
 go_enter Tryz.func27,Tryz.ntmps27
 go_wp2_with fail
 refine(HCT.o _).mono ?_
 rintro e w' ⟨rfl,rfl⟩
 clear HCT
 go_wp2_with fail
 refine(HCL.o _ HT.o).mono ?_
 rintro e w1 ⟨rfl,hb1⟩
 have hx1:=HX1.o.grow hb1
 have hx2:=HX2.o.grow hb1
 have hB1:=HBA.o.trans (hb1.mono (by rw[HWZ.o];omega))
 have hz1:=hb1.size
 rw[HWZ.o]at hz1
 have HT1:=hq (tabs_grow HT.o hb1)
 clear hb1 HBA HX1 HX2 HCL HT HWZ
 have c0:=hx1.at_ 0
 have c1:=hx1.at_ 1
 go_upto_region 7 with fail
 generalize (s.extract a b).size=cm at *
 generalize s.extract 0 b=U at *
 obtain rfl:b=U.size:=HUZ.o.symm
 go_upto_region 8 with (refine(HBK.o _).mono ?_;rintro e w' ⟨rfl,hw⟩;obtain rfl:=hw)
 clear HBK HUZ HP
 have HZ1:=hq (hx1.alloc (.cells #[.int .i64 3,.int .i64 (a:Int),.int .i64 (U.size:Int),.int .i64 ((p:Int)-(a:Int)),.int .i64 0,.int .i64 0,.int .i64 0,.int .i64 0,.int .i64 0,.int .i64 0] 46))
 have HZ2:=hq (hx2.alloc (.cells #[.int .i64 3,.int .i64 (a:Int),.int .i64 (U.size:Int),.int .i64 ((p:Int)-(a:Int)),.int .i64 0,.int .i64 0,.int .i64 0,.int .i64 0,.int .i64 0,.int .i64 0] 46))
 have HZ3:=hq (Whole.made w1 46 #[.int .i64 3,.int .i64 (a:Int),.int .i64 (U.size:Int),.int .i64 ((p:Int)-(a:Int)),.int .i64 0,.int .i64 0,.int .i64 0,.int .i64 0,.int .i64 0,.int .i64 0])
 have HB4:=hq (hB1.alloc (by omega) (.cells #[.int .i64 3,.int .i64 (a:Int),.int .i64 (U.size:Int),.int .i64 ((p:Int)-(a:Int)),.int .i64 0,.int .i64 0,.int .i64 0,.int .i64 0,.int .i64 0,.int .i64 0] 46))
 have HT4:=hq (tabs_grow HT1.o (below_alloc w1 (.cells #[.int .i64 3,.int .i64 (a:Int),.int .i64 (U.size:Int),.int .i64 ((p:Int)-(a:Int)),.int .i64 0,.int .i64 0,.int .i64 0,.int .i64 0,.int .i64 0,.int .i64 0] 46)))
 have HW4:Hq ((w1.alloc (.cells #[.int .i64 3,.int .i64 (a:Int),.int .i64 (U.size:Int),.int .i64 ((p:Int)-(a:Int)),.int .i64 0,.int .i64 0,.int .i64 0,.int .i64 0,.int .i64 0,.int .i64 0] 46)).heap.size=w1.heap.size+1):=hq (by simp)
 clear hx1 hx2 hB1
 go_wp2_with fail
 refine(HSG.o _).mono ?_
 rintro e w' ⟨rfl,hw⟩
 obtain rfl:=hw
 clear HSG
 go_upto_region 22 with fail
 clear c0 c1
 generalize w1.alloc (.cells #[.int .i64 3,.int .i64 (a:Int),.int .i64 (U.size:Int),.int .i64 ((p:Int)-(a:Int)),.int .i64 0,.int .i64 0,.int .i64 0,.int .i64 0,.int .i64 0,.int .i64 0] 46)=wz at *
 go_wp2_with fail
 refine(HRS.o _ HT4.o).mono ?_
 rintro e w2 ⟨rfl,hb2⟩
 have hnv:=HNV.o
 dsimp only at hnv ⊢
 rw[hnv]
 clear HRS HNV hnv
 have hz1':=HZ1.o.grow hb2
 have hz2':=HZ2.o.grow hb2
 have hz3':=HZ3.o.grow hb2
 have hb4':=HB4.o.trans (hb2.mono (by rw[HW4.o];omega))
 have g6:=hz3'.free 6
 have m6:=hz3'.at_ 6
 have g7:=hz3'.free 7
 have m7:=hz3'.at_ 7
 have g8:=hz3'.free 8
 have m8:=hz3'.at_ 8
 have g9:=hz3'.free 9
 have m9:=hz3'.at_ 9
 have hc1:=hz1'.at_ 1
 clear hb2 HZ1 HZ2 HZ3 HB4 HT4 HW4
 go_upto_region 23 with fail
 have HZ1:=hq ((((hz1'.far (p:=⟨w1.heap.size,6,none⟩) (by simp<;>omega) (.int .i64 (r0:Int))).far (p:=⟨w1.heap.size,7,none⟩) (by simp<;>omega) (.int .i64 (r1:Int))).far (p:=⟨w1.heap.size,8,none⟩) (by simp<;>omega) (.int .i64 n0')).far (p:=⟨w1.heap.size,9,none⟩) (by simp<;>omega) (.int .i64 n1'))
 have HZ2:=hq ((((hz2'.far (p:=⟨w1.heap.size,6,none⟩) (by simp<;>omega) (.int .i64 (r0:Int))).far (p:=⟨w1.heap.size,7,none⟩) (by simp<;>omega) (.int .i64 (r1:Int))).far (p:=⟨w1.heap.size,8,none⟩) (by simp<;>omega) (.int .i64 n0')).far (p:=⟨w1.heap.size,9,none⟩) (by simp<;>omega) (.int .i64 n1'))
 have HZ3:Hq (Whole _ w1.heap.size 46 #[.int .i64 3,.int .i64 (a:Int),.int .i64 (U.size:Int),.int .i64 ((p:Int)-(a:Int)),.int .i64 0,.int .i64 0,.int .i64 (r0:Int),.int .i64 (r1:Int),.int .i64 n0',.int .i64 n1']):=hq ((((hz3'.put 6 (.int .i64 (r0:Int))).put 7 (.int .i64 (r1:Int))).put 8 (.int .i64 n0')).put 9 (.int .i64 n1'))
 have HB4:=hq ((((hb4'.setCell (p:=⟨w1.heap.size,6,none⟩) (by simp<;>omega) (.int .i64 (r0:Int))).setCell (p:=⟨w1.heap.size,7,none⟩) (by simp<;>omega) (.int .i64 (r1:Int))).setCell (p:=⟨w1.heap.size,8,none⟩) (by simp<;>omega) (.int .i64 n0')).setCell (p:=⟨w1.heap.size,9,none⟩) (by simp<;>omega) (.int .i64 n1'))
 generalize (((w2.setCell ⟨w1.heap.size,6,none⟩ (.int .i64 (r0:Int))).setCell ⟨w1.heap.size,7,none⟩ (.int .i64 (r1:Int))).setCell ⟨w1.heap.size,8,none⟩ (.int .i64 n0')).setCell ⟨w1.heap.size,9,none⟩ (.int .i64 n1')=wz at *
 clear hz1' hz2' hz3' hb4' g6 g7 g8 g9 m6 m7 m8 m9 hc1
 have n0:=HZ3.o.at_ 0
 have n1:=HZ3.o.at_ 1
 have n2:=HZ3.o.at_ 2
 have n3:=HZ3.o.at_ 3
 have n4:=HZ3.o.at_ 4
 have n5:=HZ3.o.at_ 5
 have n6:=HZ3.o.at_ 6
 have n7:=HZ3.o.at_ 7
 have n8:=HZ3.o.at_ 8
 have n9:=HZ3.o.at_ 9
 have d0:=HZ1.o.at_ 0
 have d1:=HZ1.o.at_ 1
 have e0:=HZ2.o.at_ 0
 have e1:=HZ2.o.at_ 1
 have e2:=HZ2.o.at_ 2
 have e3:=HZ2.o.at_ 3
 have e4:=HZ2.o.at_ 4
 have e5:=HZ2.o.at_ 5
 have e6:=HZ2.o.at_ 6
 have e7:=HZ2.o.at_ 7
 have e8:=HZ2.o.at_ 8
 have e9:=HZ2.o.at_ 9
 have f0:=HZ2.o.free 0
 have f1:=HZ2.o.free 1
 have f2:=HZ2.o.free 2
 have f3:=HZ2.o.free 3
 have f4:=HZ2.o.free 4
 have f5:=HZ2.o.free 5
 have f6:=HZ2.o.free 6
 have f7:=HZ2.o.free 7
 have f8:=HZ2.o.free 8
 have f9:=HZ2.o.free 9
 go_region
 go_wp2_with fail
 refine bodyPost_ret (v:= .tuple #[.agg #[.int .i64 3,.int .i64 (a:Int),.int .i64 (U.size:Int),.int .i64 ((p:Int)-(a:Int)),.int .i64 0,.int .i64 0,.int .i64 (r0:Int),.int .i64 (r1:Int),.int .i64 n0',.int .i64 n1'],.int .i64 (U.size:Int),.int .i64 0]) ?_ rfl ⟨by rw[HN.o];try rfl,?_⟩
 ·simp[results,Tryz.results27,go_sem,e0,e1,e2,e3,e4,e5,e6,e7,e8,e9]
 ·exact ((((((((((HB4.o.setCell (by simp) _).setCell (by simp) _).setCell (by simp) _).setCell (by simp) _).setCell (by simp) _).setCell (by simp) _).setCell (by simp) _).setCell (by simp) _).setCell (by simp) _).setCell (by simp) _).drew
set_option maxHeartbeats 4000000 in
set_option maxRecDepth 1000000 in
theorem yl_F(s:ByteArray)(a b p:Nat)(V:LineR×Int×Int)(w:World)(hT:tabs w)(hs:s.size≤1099511627776)(hab:a≤b)(hbs:b≤s.size)
 (hlf:hasLF (s.extract a b)=false) (hcl:cleanM (s.extract a b) true=(s.extract a b).size) (hp:blk (s.extract 0 b) a=p) (hpl:p≤b) (hpg:a≤p) (hlt:p<b)
 (hB:byt (s.extract 0 b) p≠35) (hC:sgn (s.extract 0 b) p 45=false)
 (hD:ykeyM (s.extract 0 b) p=(p,true)) (hV:V=(lineR a b p (5,none,restM (s.extract 0 b) p),(b:Int),0)):
 Calls Tryz.prog 27 #[.string s,.agg #[.int .i64 (a:Int),.int .i64 (b:Int)]] w (LinePost V w):=by
 have hBA:=(below_alloc w (.cells #[.int .i64 (a:Int),.int .i64 (b:Int)] 44)).alloc (by simp) (.cells zero10 46)
 have hX1:=(Whole.made w 44 #[.int .i64 (a:Int),.int .i64 (b:Int)]).alloc (.cells zero10 46)
 have hX2:=Whole.made (w.alloc (.cells #[.int .i64 (a:Int),.int .i64 (b:Int)] 44)) 46 zero10
 rw[World.size_alloc]at hX2
 have HT:=hq (tabs_grow hT hBA)
 have HBA:=hq hBA
 have HX1:=hq hX1
 have HX2:=hq hX2
 have hwz:((w.alloc (.cells #[.int .i64 (a:Int),.int .i64 (b:Int)] 44)).alloc (.cells zero10 46)).heap.size=w.heap.size+1+1:=by simp
 have HWZ:=hq hwz
 clear hT hBA hX1 hX2 hwz
 have huz:(s.extract 0 b).size=b:=by rw[ByteArray.size_extract];omega
 have HUZ:=hq huz
 have HCT:=hq (fun W=>Tryz.strings_Contains_one (s.extract a b) 10 W)
 have hlf2:hasLF (s.extract a b)=decide (0≤Lib.indexByte (s.extract a b).data.toList 10):=rfl
 rw[←hlf2,hlf]at HCT
 have HCL:=hq (fun W (hW:tabs W)=>yclean_any (s.extract a b) W hW (by rw[ByteArray.size_extract];omega))
 have hcle:(s.extract a b).size≤b:=by rw[ByteArray.size_extract];omega
 rw[decide_eq_true hcl,hcl]at HCL
 have HP:=hq hp
 have HBK:=hq (fun W=>yblanks_any (s.extract 0 b) a W (by rw[HUZ.o];omega) (by rw[HUZ.o];omega))
 rw[HP.o]at HBK
 clear huz hlf2 hlf hcl hp
 have huu:(s.extract 0 b).size=b:=by rw[ByteArray.size_extract];omega
 have hpU:p<(s.extract 0 b).size:=by omega
 have y0:(((s.extract 0 b)[p]'hpU).toNat:Int)=(byt (s.extract 0 b) p:Int):=by rw[byt_eq _ p hpU]
 have eA:((p:Int)==((s.extract 0 b).size:Int))=false:=beq_int_false (by omega)
 have eB:((byt (s.extract 0 b) p:Int)==35)=false:=beq_int_false hB
 have HSG:=hq (fun W=>ysign_any (s.extract 0 b) p 45 W (by omega) (by omega))
 rw[hC]at HSG
 have HKY:=hq (fun W (hW:tabs W)=>ykey_any (s.extract 0 b) p W hW (by omega) hpU)
 rw[hD]at HKY
 obtain⟨n0',n1',hn1,hn2⟩:=noteA_is (s.extract 0 b) (restM (s.extract 0 b) (p)).2
 have HRS:=hq (fun W (hW:tabs W)=>yrest_any (s.extract 0 b) (p) W hW (by omega) (by omega))
 have HN0:=hq (lineR_note a b p 5 (none) (restM (s.extract 0 b) (p)) n0' n1' (by rw[huu]at hn2;exact hn2))
 have HNV:=hq hn1
 have HV:=hq hV
 clear hV hn1 hn2
 generalize restM (s.extract 0 b) (p)=RR at *
 obtain⟨⟨r0,r1⟩,no⟩:=RR
 have HN:Hq (V=(⟨5,a,b,(p:Int)-a,0,0,r0,r1,n0',n1'⟩,(b:Int),0)):=hq (by rw[HV.o,HN0.o];rfl)
 clear hB hC huu HN0 HV hD
 generalize byt (s.extract 0 b) p=cc at *
 go_enter Tryz.func27,Tryz.ntmps27
 go_wp2_with fail
 refine(HCT.o _).mono ?_
 rintro e w' ⟨rfl,rfl⟩
 clear HCT
 go_wp2_with fail
 refine(HCL.o _ HT.o).mono ?_
 rintro e w1 ⟨rfl,hb1⟩
 have hx1:=HX1.o.grow hb1
 have hx2:=HX2.o.grow hb1
 have hB1:=HBA.o.trans (hb1.mono (by rw[HWZ.o];omega))
 have hz1:=hb1.size
 rw[HWZ.o]at hz1
 have HT1:=hq (tabs_grow HT.o hb1)
 clear hb1 HBA HX1 HX2 HCL HT HWZ
 have c0:=hx1.at_ 0
 have c1:=hx1.at_ 1
 go_upto_region 7 with fail
 generalize (s.extract a b).size=cm at *
 generalize s.extract 0 b=U at *
 obtain rfl:b=U.size:=HUZ.o.symm
 go_upto_region 8 with (refine(HBK.o _).mono ?_;rintro e w' ⟨rfl,hw⟩;obtain rfl:=hw)
 clear HBK HUZ HP
 have HZ1:=hq (hx1.alloc (.cells #[.int .i64 5,.int .i64 (a:Int),.int .i64 (U.size:Int),.int .i64 ((p:Int)-(a:Int)),.int .i64 0,.int .i64 0,.int .i64 0,.int .i64 0,.int .i64 0,.int .i64 0] 46))
 have HZ2:=hq (hx2.alloc (.cells #[.int .i64 5,.int .i64 (a:Int),.int .i64 (U.size:Int),.int .i64 ((p:Int)-(a:Int)),.int .i64 0,.int .i64 0,.int .i64 0,.int .i64 0,.int .i64 0,.int .i64 0] 46))
 have HZ3:=hq (Whole.made w1 46 #[.int .i64 5,.int .i64 (a:Int),.int .i64 (U.size:Int),.int .i64 ((p:Int)-(a:Int)),.int .i64 0,.int .i64 0,.int .i64 0,.int .i64 0,.int .i64 0,.int .i64 0])
 have HB4:=hq (hB1.alloc (by omega) (.cells #[.int .i64 5,.int .i64 (a:Int),.int .i64 (U.size:Int),.int .i64 ((p:Int)-(a:Int)),.int .i64 0,.int .i64 0,.int .i64 0,.int .i64 0,.int .i64 0,.int .i64 0] 46))
 have HT4:=hq (tabs_grow HT1.o (below_alloc w1 (.cells #[.int .i64 5,.int .i64 (a:Int),.int .i64 (U.size:Int),.int .i64 ((p:Int)-(a:Int)),.int .i64 0,.int .i64 0,.int .i64 0,.int .i64 0,.int .i64 0,.int .i64 0] 46)))
 have HW4:Hq ((w1.alloc (.cells #[.int .i64 5,.int .i64 (a:Int),.int .i64 (U.size:Int),.int .i64 ((p:Int)-(a:Int)),.int .i64 0,.int .i64 0,.int .i64 0,.int .i64 0,.int .i64 0,.int .i64 0] 46)).heap.size=w1.heap.size+1):=hq (by simp)
 clear hx1 hx2 hB1
 go_wp2_with fail
 refine(HSG.o _).mono ?_
 rintro e w' ⟨rfl,hw⟩
 obtain rfl:=hw
 clear HSG
 go_wp2_with fail
 generalize w1.alloc (.cells #[.int .i64 5,.int .i64 (a:Int),.int .i64 (U.size:Int),.int .i64 ((p:Int)-(a:Int)),.int .i64 0,.int .i64 0,.int .i64 0,.int .i64 0,.int .i64 0,.int .i64 0] 46)=wz at *
 refine(HKY.o _ HT4.o).mono ?_
 rintro e w2 ⟨rfl,hb2⟩
 clear HKY
 clear c0 c1
 have HZ1k:=hq (HZ1.o.grow hb2)
 have HZ2k:=hq (HZ2.o.grow hb2)
 have HZ3k:=hq (HZ3.o.grow hb2)
 have HB4k:=hq (HB4.o.trans (hb2.mono (by rw[HW4.o];omega)))
 have HT4k:=hq (tabs_grow HT4.o hb2)
 have HW4k:Hq (w1.heap.size+1≤w2.heap.size):=hq (by rw[←HW4.o];exact hb2.size)
 clear hb2 HZ1 HZ2 HZ3 HB4 HT4 HW4
 go_wp2_with fail
 refine(HRS.o _ HT4k.o).mono ?_
 rintro e w3 ⟨rfl,hb3⟩
 have hnv:=HNV.o
 dsimp only at hnv ⊢
 rw[hnv]
 clear HRS HNV hnv
 have hz1':=HZ1k.o.grow hb3
 have hz2':=HZ2k.o.grow hb3
 have hz3':=HZ3k.o.grow hb3
 have hb4':=HB4k.o.trans (hb3.mono (by have:=HW4k.o;omega))
 have g6:=hz3'.free 6
 have m6:=hz3'.at_ 6
 have g7:=hz3'.free 7
 have m7:=hz3'.at_ 7
 have g8:=hz3'.free 8
 have m8:=hz3'.at_ 8
 have g9:=hz3'.free 9
 have m9:=hz3'.at_ 9
 have hc1:=hz1'.at_ 1
 clear hb3 HZ1k HZ2k HZ3k HB4k HT4k HW4k
 go_upto_region 23 with fail
 have HZ1:=hq ((((hz1'.far (p:=⟨w1.heap.size,6,none⟩) (by simp<;>omega) (.int .i64 (r0:Int))).far (p:=⟨w1.heap.size,7,none⟩) (by simp<;>omega) (.int .i64 (r1:Int))).far (p:=⟨w1.heap.size,8,none⟩) (by simp<;>omega) (.int .i64 n0')).far (p:=⟨w1.heap.size,9,none⟩) (by simp<;>omega) (.int .i64 n1'))
 have HZ2:=hq ((((hz2'.far (p:=⟨w1.heap.size,6,none⟩) (by simp<;>omega) (.int .i64 (r0:Int))).far (p:=⟨w1.heap.size,7,none⟩) (by simp<;>omega) (.int .i64 (r1:Int))).far (p:=⟨w1.heap.size,8,none⟩) (by simp<;>omega) (.int .i64 n0')).far (p:=⟨w1.heap.size,9,none⟩) (by simp<;>omega) (.int .i64 n1'))
 have HZ3:Hq (Whole _ w1.heap.size 46 #[.int .i64 5,.int .i64 (a:Int),.int .i64 (U.size:Int),.int .i64 ((p:Int)-(a:Int)),.int .i64 0,.int .i64 0,.int .i64 (r0:Int),.int .i64 (r1:Int),.int .i64 n0',.int .i64 n1']):=hq ((((hz3'.put 6 (.int .i64 (r0:Int))).put 7 (.int .i64 (r1:Int))).put 8 (.int .i64 n0')).put 9 (.int .i64 n1'))
 have HB4:=hq ((((hb4'.setCell (p:=⟨w1.heap.size,6,none⟩) (by simp<;>omega) (.int .i64 (r0:Int))).setCell (p:=⟨w1.heap.size,7,none⟩) (by simp<;>omega) (.int .i64 (r1:Int))).setCell (p:=⟨w1.heap.size,8,none⟩) (by simp<;>omega) (.int .i64 n0')).setCell (p:=⟨w1.heap.size,9,none⟩) (by simp<;>omega) (.int .i64 n1'))
 generalize (((w3.setCell ⟨w1.heap.size,6,none⟩ (.int .i64 (r0:Int))).setCell ⟨w1.heap.size,7,none⟩ (.int .i64 (r1:Int))).setCell ⟨w1.heap.size,8,none⟩ (.int .i64 n0')).setCell ⟨w1.heap.size,9,none⟩ (.int .i64 n1')=wz at *
 clear hz1' hz2' hz3' hb4' g6 g7 g8 g9 m6 m7 m8 m9 hc1
 have n0:=HZ3.o.at_ 0
 have n1:=HZ3.o.at_ 1
 have n2:=HZ3.o.at_ 2
 have n3:=HZ3.o.at_ 3
 have n4:=HZ3.o.at_ 4
 have n5:=HZ3.o.at_ 5
 have n6:=HZ3.o.at_ 6
 have n7:=HZ3.o.at_ 7
 have n8:=HZ3.o.at_ 8
 have n9:=HZ3.o.at_ 9
 have d0:=HZ1.o.at_ 0
 have d1:=HZ1.o.at_ 1
 have e0:=HZ2.o.at_ 0
 have e1:=HZ2.o.at_ 1
 have e2:=HZ2.o.at_ 2
 have e3:=HZ2.o.at_ 3
 have e4:=HZ2.o.at_ 4
 have e5:=HZ2.o.at_ 5
 have e6:=HZ2.o.at_ 6
 have e7:=HZ2.o.at_ 7
 have e8:=HZ2.o.at_ 8
 have e9:=HZ2.o.at_ 9
 have f0:=HZ2.o.free 0
 have f1:=HZ2.o.free 1
 have f2:=HZ2.o.free 2
 have f3:=HZ2.o.free 3
 have f4:=HZ2.o.free 4
 have f5:=HZ2.o.free 5
 have f6:=HZ2.o.free 6
 have f7:=HZ2.o.free 7
 have f8:=HZ2.o.free 8
 have f9:=HZ2.o.free 9
 go_region
 go_wp2_with fail
 refine bodyPost_ret (v:= .tuple #[.agg #[.int .i64 5,.int .i64 (a:Int),.int .i64 (U.size:Int),.int .i64 ((p:Int)-(a:Int)),.int .i64 0,.int .i64 0,.int .i64 (r0:Int),.int .i64 (r1:Int),.int .i64 n0',.int .i64 n1'],.int .i64 (U.size:Int),.int .i64 0]) ?_ rfl ⟨by rw[HN.o];try rfl,?_⟩
 ·simp[results,Tryz.results27,go_sem,e0,e1,e2,e3,e4,e5,e6,e7,e8,e9]
 ·exact ((((((((((HB4.o.setCell (by simp) _).setCell (by simp) _).setCell (by simp) _).setCell (by simp) _).setCell (by simp) _).setCell (by simp) _).setCell (by simp) _).setCell (by simp) _).setCell (by simp) _).setCell (by simp) _).drew
end Go.Proofs.YtkafjblfjdpdaaaGreatDoor
