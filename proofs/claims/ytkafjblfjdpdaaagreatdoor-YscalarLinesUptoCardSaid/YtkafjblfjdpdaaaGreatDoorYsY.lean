/-
  WALKS: yline.Line: an entry.
  WALKS: yline.Line: all ways.
  PLAIN MATHEMATICS: blanks ahead of a line; the parts of a line.
  PLAIN MATHEMATICS: what Line answers of a line that was made of blanks, a key, a colon and a rest; of blanks, a - and a rest.
-/
import Derived.Test.YtkafjblfjdpdaaaGreatDoorYlL1
import Derived.Test.YtkafjblfjdpdaaaGreatDoorYlL2
import Derived.Test.YtkafjblfjdpdaaaGreatDoorYlH
import Derived.Test.YtkafjblfjdpdaaaGreatDoorYsF
namespace Go.Proofs.YtkafjblfjdpdaaaGreatDoor
open Go.RowKit
set_option maxHeartbeats 4000000 in
set_option maxRecDepth 1000000 in
theorem yl_E(s:ByteArray)(a b p:Nat)(V:LineR×Int×Int)(w:World)(hT:tabs w)(hs:s.size≤1099511627776)(hab:a≤b)(hbs:b≤s.size)
 (hlf:hasLF (s.extract a b)=false) (hcl:cleanM (s.extract a b) true=(s.extract a b).size) (hp:blk (s.extract 0 b) a=p) (hpl:p≤b) (hpg:a≤p) (hlt:p<b)
 (hB:byt (s.extract 0 b) p≠35) (hC:sgn (s.extract 0 b) p 45=false) (e:Nat) (he1:p<e) (he2:e<b)
 (hD:ykeyM (s.extract 0 b) p=(e,true)) (hV:V=(lineR a b p (4,some e,restM (s.extract 0 b) (e+1)),(b:Int),0)):
 Calls Tryz.prog 27 #[.string s,.agg #[.int .i64 (a:Int),.int .i64 (b:Int)]] w (LinePost V w):=by
 have hBA:=(below_alloc w (.cells #[.int .i64 (a:Int),.int .i64 (b:Int)] 44)).alloc (by simp) (.cells zero10 46)
 have hX1:=(Whole.made w 44 #[.int .i64 (a:Int),.int .i64 (b:Int)]).alloc (.cells zero10 46)
 have hX2:=Whole.made (w.alloc (.cells #[.int .i64 (a:Int),.int .i64 (b:Int)] 44)) 46 zero10
 rw[World.size_alloc]at hX2
 have hT9:=hT
 have HT:=hq (tabs_grow hT hBA)
 have HBA:=hq hBA
 have HX1:=hq hX1
 have HX2:=hq hX2
 have hwz:((w.alloc (.cells #[.int .i64 (a:Int),.int .i64 (b:Int)] 44)).alloc (.cells zero10 46)).heap.size=w.heap.size+1+1:=by simp
 have HWZ:=hq hwz
 have HT9:=hq hT9
 clear hT hT9 hBA hX1 hX2 hwz
 have huz:(s.extract 0 b).size=b:=by rw[ByteArray.size_extract];omega
 have HUZ:=hq huz
 have HCT:=hq (fun W=>Tryz.strings_Contains_one (s.extract a b) 10 W)
 have hlf2:hasLF (s.extract a b)=decide (0≤Lib.indexByte (s.extract a b).data.toList 10):=rfl
 rw[←hlf2,hlf]at HCT
 have HCL:=hq (fun W (hW:tabs W)=>yclean_any (s.extract a b) W hW (by rw[ByteArray.size_extract];omega))
 have hcle:(s.extract a b).size≤b:=by rw[ByteArray.size_extract];omega
 rw[decide_eq_true hcl,hcl]at HCL
 have HP:=hq hp
 have HBK:=hq (fun W=>yblanks_any (s.extract 0 b) a W (by rw[HUZ.o];omega) (by rw[HUZ.o];omega))
 rw[HP.o]at HBK
 clear huz hlf2 hlf hcl hp
 have huu:(s.extract 0 b).size=b:=by rw[ByteArray.size_extract];omega
 have hpU:p<(s.extract 0 b).size:=by omega
 have y0:(((s.extract 0 b)[p]'hpU).toNat:Int)=(byt (s.extract 0 b) p:Int):=by rw[byt_eq _ p hpU]
 have eA:((p:Int)==((s.extract 0 b).size:Int))=false:=beq_int_false (by omega)
 have eB:((byt (s.extract 0 b) p:Int)==35)=false:=beq_int_false hB
 have HSG:=hq (fun W=>ysign_any (s.extract 0 b) p 45 W (by omega) (by omega))
 rw[hC]at HSG
 have HKY:=hq (fun W (hW:tabs W)=>ykey_any (s.extract 0 b) p W hW (by omega) hpU)
 rw[hD]at HKY
 obtain⟨n0',n1',hn1,hn2⟩:=noteA_is (s.extract 0 b) (restM (s.extract 0 b) (e+1)).2
 have HRS:=hq (fun W (hW:tabs W)=>yrest_any (s.extract 0 b) (e+1) W hW (by omega) (by omega))
 have hcast:(((e+1:Nat)):Int)=(e:Int)+1:=by omega
 rw[hcast]at HRS
 have HN0:=hq (lineR_note a b p 4 (some e) (restM (s.extract 0 b) (e+1)) n0' n1' (by rw[huu]at hn2;exact hn2))
 have HNV:=hq hn1
 have HV:=hq hV
 clear hV hn1 hn2 hcast
 generalize restM (s.extract 0 b) (e+1)=RR at *
 obtain⟨⟨r0,r1⟩,no⟩:=RR
 have HN:Hq (V=(⟨4,a,b,(p:Int)-a,(p:Int),(e:Int),r0,r1,n0',n1'⟩,(b:Int),0)):=hq (by rw[HV.o,HN0.o];rfl)
 clear hB hC huu HN0 HV hD
 generalize byt (s.extract 0 b) p=cc at *
 go_enter Tryz.func27,Tryz.ntmps27
 go_wp2_with fail
 refine(HCT.o _).mono ?_
 rintro e w' ⟨rfl,rfl⟩
 clear HCT
 go_wp2_with fail
 refine(HCL.o _ HT.o).mono ?_
 rintro e w1 ⟨rfl,hb1⟩
 have hx1:=HX1.o.grow hb1
 have hx2:=HX2.o.grow hb1
 have hB1:=HBA.o.trans (hb1.mono (by rw[HWZ.o];omega))
 have hz1:=hb1.size
 rw[HWZ.o]at hz1
 have HT1:=hq (tabs_grow HT.o hb1)
 clear hb1 HBA HX1 HX2 HCL HT HWZ
 have c0:=hx1.at_ 0
 have c1:=hx1.at_ 1
 go_upto_region 7 with fail
 generalize (s.extract a b).size=cm at *
 generalize s.extract 0 b=U at *
 obtain rfl:b=U.size:=HUZ.o.symm
 go_upto_region 8 with (refine(HBK.o _).mono ?_;rintro e w' ⟨rfl,hw⟩;obtain rfl:=hw)
 clear HBK HUZ HP
 have HZ1:=hq (hx1.alloc (.cells #[.int .i64 5,.int .i64 (a:Int),.int .i64 (U.size:Int),.int .i64 ((p:Int)-(a:Int)),.int .i64 0,.int .i64 0,.int .i64 0,.int .i64 0,.int .i64 0,.int .i64 0] 46))
 have HZ2:=hq (hx2.alloc (.cells #[.int .i64 5,.int .i64 (a:Int),.int .i64 (U.size:Int),.int .i64 ((p:Int)-(a:Int)),.int .i64 0,.int .i64 0,.int .i64 0,.int .i64 0,.int .i64 0,.int .i64 0] 46))
 have HZ3:=hq (Whole.made w1 46 #[.int .i64 5,.int .i64 (a:Int),.int .i64 (U.size:Int),.int .i64 ((p:Int)-(a:Int)),.int .i64 0,.int .i64 0,.int .i64 0,.int .i64 0,.int .i64 0,.int .i64 0])
 have HB4:=hq (hB1.alloc (by omega) (.cells #[.int .i64 5,.int .i64 (a:Int),.int .i64 (U.size:Int),.int .i64 ((p:Int)-(a:Int)),.int .i64 0,.int .i64 0,.int .i64 0,.int .i64 0,.int .i64 0,.int .i64 0] 46))
 have HT4:=hq (tabs_grow HT1.o (below_alloc w1 (.cells #[.int .i64 5,.int .i64 (a:Int),.int .i64 (U.size:Int),.int .i64 ((p:Int)-(a:Int)),.int .i64 0,.int .i64 0,.int .i64 0,.int .i64 0,.int .i64 0,.int .i64 0] 46)))
 have HW4:Hq ((w1.alloc (.cells #[.int .i64 5,.int .i64 (a:Int),.int .i64 (U.size:Int),.int .i64 ((p:Int)-(a:Int)),.int .i64 0,.int .i64 0,.int .i64 0,.int .i64 0,.int .i64 0,.int .i64 0] 46)).heap.size=w1.heap.size+1):=hq (by simp)
 clear hx1 hx2 hB1
 go_wp2_with fail
 refine(HSG.o _).mono ?_
 rintro e w' ⟨rfl,hw⟩
 obtain rfl:=hw
 clear HSG
 go_wp2_with fail
 generalize w1.alloc (.cells #[.int .i64 5,.int .i64 (a:Int),.int .i64 (U.size:Int),.int .i64 ((p:Int)-(a:Int)),.int .i64 0,.int .i64 0,.int .i64 0,.int .i64 0,.int .i64 0,.int .i64 0] 46)=wz at *
 refine(HKY.o _ HT4.o).mono ?_
 rintro e w2 ⟨rfl,hb2⟩
 clear HKY
 clear c0 c1
 have hz1:=HZ1.o.grow hb2
 have hz2:=HZ2.o.grow hb2
 have hz3:=HZ3.o.grow hb2
 have hb4:=HB4.o.trans (hb2.mono (by rw[HW4.o];omega))
 have HT4k:=hq (tabs_grow HT4.o hb2)
 have HW4k:Hq (w1.heap.size+1≤w2.heap.size):=hq (by rw[←HW4.o];exact hb2.size)
 have m0:=hz3.at_ 0
 have m4:=hz3.at_ 4
 have m5:=hz3.at_ 5
 have g0:=hz3.free 0
 have g4:=hz3.free 4
 have g5:=hz3.free 5
 have hpe:(p:Int)<(e:Int):=by omega
 clear hb2 HZ1 HZ2 HZ3 HB4 HT4 HW4
 go_upto_region 14 with fail
 have HZ1k:=hq (((hz1.far (p:=⟨w1.heap.size,0,none⟩) (by simp<;>omega) (.int .i64 4)).far (p:=⟨w1.heap.size,4,none⟩) (by simp<;>omega) (.int .i64 (p:Int))).far (p:=⟨w1.heap.size,5,none⟩) (by simp<;>omega) (.int .i64 (e:Int)))
 have HZ2k:=hq (((hz2.far (p:=⟨w1.heap.size,0,none⟩) (by simp<;>omega) (.int .i64 4)).far (p:=⟨w1.heap.size,4,none⟩) (by simp<;>omega) (.int .i64 (p:Int))).far (p:=⟨w1.heap.size,5,none⟩) (by simp<;>omega) (.int .i64 (e:Int)))
 have HZ3k:Hq (Whole _ w1.heap.size 46 #[.int .i64 4,.int .i64 (a:Int),.int .i64 (U.size:Int),.int .i64 ((p:Int)-(a:Int)),.int .i64 (p:Int),.int .i64 (e:Int),.int .i64 0,.int .i64 0,.int .i64 0,.int .i64 0]):=hq (((hz3.put 0 (.int .i64 4)).put 4 (.int .i64 (p:Int))).put 5 (.int .i64 (e:Int)))
 have HB4k:=hq (((hb4.setCell (p:=⟨w1.heap.size,0,none⟩) (by simp<;>omega) (.int .i64 4)).setCell (p:=⟨w1.heap.size,4,none⟩) (by simp<;>omega) (.int .i64 (p:Int))).setCell (p:=⟨w1.heap.size,5,none⟩) (by simp<;>omega) (.int .i64 (e:Int)))
 have HT5k:=hq (tabs_grow HT9.o HB4k.o)
 generalize ((w2.setCell ⟨w1.heap.size,0,none⟩ (.int .i64 4)).setCell ⟨w1.heap.size,4,none⟩ (.int .i64 (p:Int))).setCell ⟨w1.heap.size,5,none⟩ (.int .i64 (e:Int))=wy at *
 have HW5k:Hq (w.heap.size+1+1≤wy.heap.size∧w1.heap.size<wy.heap.size):=hq ⟨by have:=HZ3k.o.lt;omega,HZ3k.o.lt⟩
 clear hz1 hz2 hz3 hb4 m0 m4 m5 g0 g4 g5 HT4k HW4k
 go_wp2_with fail
 refine(HRS.o _ HT5k.o).mono ?_
 rintro e w3 ⟨rfl,hb3⟩
 have hnv:=HNV.o
 dsimp only at hnv ⊢
 rw[hnv]
 clear HRS HNV hnv
 have hz1':=HZ1k.o.grow hb3
 have hz2':=HZ2k.o.grow hb3
 have hz3':=HZ3k.o.grow hb3
 have hb4':=HB4k.o.trans (hb3.mono (by have:=HW5k.o;omega))
 have g6:=hz3'.free 6
 have m6:=hz3'.at_ 6
 have g7:=hz3'.free 7
 have m7:=hz3'.at_ 7
 have g8:=hz3'.free 8
 have m8:=hz3'.at_ 8
 have g9:=hz3'.free 9
 have m9:=hz3'.at_ 9
 have hc1:=hz1'.at_ 1
 clear hb3 HZ1k HZ2k HZ3k HB4k HT5k HW5k
 go_upto_region 23 with fail
 have HZ1:=hq ((((hz1'.far (p:=⟨w1.heap.size,6,none⟩) (by simp<;>omega) (.int .i64 (r0:Int))).far (p:=⟨w1.heap.size,7,none⟩) (by simp<;>omega) (.int .i64 (r1:Int))).far (p:=⟨w1.heap.size,8,none⟩) (by simp<;>omega) (.int .i64 n0')).far (p:=⟨w1.heap.size,9,none⟩) (by simp<;>omega) (.int .i64 n1'))
 have HZ2:=hq ((((hz2'.far (p:=⟨w1.heap.size,6,none⟩) (by simp<;>omega) (.int .i64 (r0:Int))).far (p:=⟨w1.heap.size,7,none⟩) (by simp<;>omega) (.int .i64 (r1:Int))).far (p:=⟨w1.heap.size,8,none⟩) (by simp<;>omega) (.int .i64 n0')).far (p:=⟨w1.heap.size,9,none⟩) (by simp<;>omega) (.int .i64 n1'))
 have HZ3:Hq (Whole _ w1.heap.size 46 #[.int .i64 4,.int .i64 (a:Int),.int .i64 (U.size:Int),.int .i64 ((p:Int)-(a:Int)),.int .i64 (p:Int),.int .i64 (e:Int),.int .i64 (r0:Int),.int .i64 (r1:Int),.int .i64 n0',.int .i64 n1']):=hq ((((hz3'.put 6 (.int .i64 (r0:Int))).put 7 (.int .i64 (r1:Int))).put 8 (.int .i64 n0')).put 9 (.int .i64 n1'))
 have HB4:=hq ((((hb4'.setCell (p:=⟨w1.heap.size,6,none⟩) (by simp<;>omega) (.int .i64 (r0:Int))).setCell (p:=⟨w1.heap.size,7,none⟩) (by simp<;>omega) (.int .i64 (r1:Int))).setCell (p:=⟨w1.heap.size,8,none⟩) (by simp<;>omega) (.int .i64 n0')).setCell (p:=⟨w1.heap.size,9,none⟩) (by simp<;>omega) (.int .i64 n1'))
 generalize (((w3.setCell ⟨w1.heap.size,6,none⟩ (.int .i64 (r0:Int))).setCell ⟨w1.heap.size,7,none⟩ (.int .i64 (r1:Int))).setCell ⟨w1.heap.size,8,none⟩ (.int .i64 n0')).setCell ⟨w1.heap.size,9,none⟩ (.int .i64 n1')=wz at *
 clear hz1' hz2' hz3' hb4' g6 g7 g8 g9 m6 m7 m8 m9 hc1
 have n0:=HZ3.o.at_ 0
 have n1:=HZ3.o.at_ 1
 have n2:=HZ3.o.at_ 2
 have n3:=HZ3.o.at_ 3
 have n4:=HZ3.o.at_ 4
 have n5:=HZ3.o.at_ 5
 have n6:=HZ3.o.at_ 6
 have n7:=HZ3.o.at_ 7
 have n8:=HZ3.o.at_ 8
 have n9:=HZ3.o.at_ 9
 have d0:=HZ1.o.at_ 0
 have d1:=HZ1.o.at_ 1
 have e0:=HZ2.o.at_ 0
 have e1:=HZ2.o.at_ 1
 have e2:=HZ2.o.at_ 2
 have e3:=HZ2.o.at_ 3
 have e4:=HZ2.o.at_ 4
 have e5:=HZ2.o.at_ 5
 have e6:=HZ2.o.at_ 6
 have e7:=HZ2.o.at_ 7
 have e8:=HZ2.o.at_ 8
 have e9:=HZ2.o.at_ 9
 have f0:=HZ2.o.free 0
 have f1:=HZ2.o.free 1
 have f2:=HZ2.o.free 2
 have f3:=HZ2.o.free 3
 have f4:=HZ2.o.free 4
 have f5:=HZ2.o.free 5
 have f6:=HZ2.o.free 6
 have f7:=HZ2.o.free 7
 have f8:=HZ2.o.free 8
 have f9:=HZ2.o.free 9
 go_region
 go_wp2_with fail
 refine bodyPost_ret (v:= .tuple #[.agg #[.int .i64 4,.int .i64 (a:Int),.int .i64 (U.size:Int),.int .i64 ((p:Int)-(a:Int)),.int .i64 (p:Int),.int .i64 (e:Int),.int .i64 (r0:Int),.int .i64 (r1:Int),.int .i64 n0',.int .i64 n1'],.int .i64 (U.size:Int),.int .i64 0]) ?_ rfl ⟨by rw[HN.o];try rfl,?_⟩
 ·simp[results,Tryz.results27,go_sem,e0,e1,e2,e3,e4,e5,e6,e7,e8,e9]
 ·exact ((((((((((HB4.o.setCell (by simp) _).setCell (by simp) _).setCell (by simp) _).setCell (by simp) _).setCell (by simp) _).setCell (by simp) _).setCell (by simp) _).setCell (by simp) _).setCell (by simp) _).setCell (by simp) _).drew
end Go.Proofs.YtkafjblfjdpdaaaGreatDoor
namespace Go.Proofs.YtkafjblfjdpdaaaGreatDoor
open Go.RowKit
set_option maxHeartbeats 4000000 in
set_option maxRecDepth 1000000 in
theorem yline_any(s:ByteArray)(a b:Int)(w:World)(hT:tabs w)(hs:s.size≤1099511627776)(ha:-9223372036854775808≤a∧a≤9223372036854775807)(hb:-9223372036854775808≤b∧b≤9223372036854775807):
 Calls Tryz.prog 27 #[.string s,.agg #[.int .i64 a,.int .i64 b]] w (LinePost (lineM s a b) w):=by
 obtain⟨ha1,ha2⟩:=ha
 obtain⟨hb1,hb2⟩:=hb
 have HS:Hq (lineM s a b=if a<0∨b<a∨(s.size:Int)<b then(lineZ,0,1) else lineN s a.toNat b.toNat):=hq rfl
 generalize lineM s a b=V at *
 have hBA:=(below_alloc w (.cells #[.int .i64 a,.int .i64 b] 44)).alloc (by simp) (.cells zero10 46)
 have hX1:=(Whole.made w 44 #[.int .i64 a,.int .i64 b]).alloc (.cells zero10 46)
 have hX2:=Whole.made (w.alloc (.cells #[.int .i64 a,.int .i64 b] 44)) 46 zero10
 rw[World.size_alloc]at hX2
 have HT0:=hq hT
 have HT:=hq (tabs_grow hT hBA)
 have HBA:=hq hBA
 have HX1:=hq hX1
 have HX2:=hq hX2
 have hwz:((w.alloc (.cells #[.int .i64 a,.int .i64 b] 44)).alloc (.cells zero10 46)).heap.size=w.heap.size+1+1:=by simp
 have HWZ:=hq hwz
 clear hT hBA hX1 hX2 hwz
 by_cases h0:a<0
 ·have HN:=hq (HS.o.trans (if_pos (.inl h0)))
  clear HS
  go_enter Tryz.func27,Tryz.ntmps27
  go_wp2_with fail
  refine bodyPost_ret (v:= .tuple #[.agg zero10,.int .i64 0,.int .i64 1]) (by simp[results,Tryz.results27,go_sem]) rfl ⟨by rw[HN.o];rfl,?_⟩
  exact HBA.o
 ·obtain ⟨a,rfl⟩:=Int.eq_ofNat_of_zero_le (Int.not_lt.1 h0)
  have h0': ¬(a:Int)<0:=h0
  by_cases h1:b<(a:Int)
  ·have HN:=hq (HS.o.trans (if_pos (.inr (.inl h1))))
   clear HS
   go_enter Tryz.func27,Tryz.ntmps27
   go_wp2_with fail
   refine bodyPost_ret (v:= .tuple #[.agg zero10,.int .i64 0,.int .i64 1]) (by simp[results,Tryz.results27,go_sem]) rfl ⟨by rw[HN.o];rfl,?_⟩
   exact HBA.o
  ·obtain ⟨b,rfl⟩:=Int.eq_ofNat_of_zero_le (show 0≤b by omega)
   by_cases h2:(s.size:Int)<(b:Int)
   ·have HN:=hq (HS.o.trans (if_pos (.inr (.inr h2))))
    clear HS
    go_enter Tryz.func27,Tryz.ntmps27
    go_wp2_with fail
    refine bodyPost_ret (v:= .tuple #[.agg zero10,.int .i64 0,.int .i64 1]) (by simp[results,Tryz.results27,go_sem]) rfl ⟨by rw[HN.o];rfl,?_⟩
    exact HBA.o
   ·have HL:Hq (V=if hasLF (s.extract a b)=true then(lineZ,0,1)
     else if¬cleanM (s.extract a b) true=(s.extract a b).size then(lineZ,(a:Int)+(cleanM (s.extract a b) true:Int),2)
     else lineF a b (blk (s.extract 0 b) a) (lineD (s.extract 0 b) (blk (s.extract 0 b) a))):=hq (HS.o.trans (if_neg (fun h=>h.elim h0 (fun h=>h.elim h1 h2))))
    clear HS h0
    have h1': ¬(b:Int)<(a:Int):=h1
    have hab:a≤b:=by omega
    have hbs:b≤s.size:=by omega
    clear h1
    have htz:(s.extract a b).size=b-a:=by rw[ByteArray.size_extract];omega
    have huz:(s.extract 0 b).size=b:=by rw[ByteArray.size_extract];omega
    have HTZ:=hq htz
    have HUZ:=hq huz
    have HCT:=hq (fun W=>Tryz.strings_Contains_one (s.extract a b) 10 W)
    have hlf:hasLF (s.extract a b)=decide (0≤Lib.indexByte (s.extract a b).data.toList 10):=rfl
    rw[←hlf]at HCT
    have HCL:=hq (fun W (hW:tabs W)=>yclean_any (s.extract a b) W hW (by omega))
    clear htz huz hlf
    have hcle:cleanM (s.extract a b) true≤b-a:=by rw[←HTZ.o];exact clnM_le _ _ _ _
    have hT0:=HT0.o
    cases hG:hasLF (s.extract a b) with
    |true=>
     have HN:=hq (HL.o.trans (if_pos hG))
     rw[hG]at HCT
     clear HL hG HCL
     go_enter Tryz.func27,Tryz.ntmps27
     go_wp2_with fail
     refine(HCT.o _).mono ?_
     rintro e w' ⟨rfl,rfl⟩
     clear HCT
     go_wp2_with fail
     refine bodyPost_ret (v:= .tuple #[.agg zero10,.int .i64 0,.int .i64 1]) (by simp[results,Tryz.results27,go_sem]) rfl ⟨by rw[HN.o];rfl,?_⟩
     exact HBA.o
    |false=>
     have HL2:=hq (HL.o.trans (if_neg (by rw[hG];exact Bool.false_ne_true)))
     rw[hG]at HCT
     have hG0:=hG
     clear HL hG
     by_cases hcl:cleanM (s.extract a b) true=(s.extract a b).size
     ·have HL3:Hq (V=lineF a b (blk (s.extract 0 b) a) (lineD (s.extract 0 b) (blk (s.extract 0 b) a))):=hq (HL2.o.trans (if_neg (fun h=>h hcl)))
      have hcl0:=hcl
      clear HL2 hcl
      have hT:=hT0
      have huz:(s.extract 0 b).size=b:=HUZ.o
      have hpl:=blk_le (s.extract 0 b) a (by omega)
      have hpg:=blk_ge (s.extract 0 b) a
      rw[huz]at hpl
      have HLD:lineD (s.extract 0 b) (blk (s.extract 0 b) a)=if (blk (s.extract 0 b) a)=(s.extract 0 b).size then some (1,none,((blk (s.extract 0 b) a),(blk (s.extract 0 b) a)),none)
       else if byt (s.extract 0 b) (blk (s.extract 0 b) a)=35 then some (2,none,((blk (s.extract 0 b) a),(blk (s.extract 0 b) a)),some (blk (s.extract 0 b) a))
       else if sgn (s.extract 0 b) (blk (s.extract 0 b) a) 45=true then some (3,none,restM (s.extract 0 b) ((blk (s.extract 0 b) a)+1))
       else if (ykeyM (s.extract 0 b) (blk (s.extract 0 b) a)).2=false then none
       else if (blk (s.extract 0 b) a)<(ykeyM (s.extract 0 b) (blk (s.extract 0 b) a)).1 then some (4,some (ykeyM (s.extract 0 b) (blk (s.extract 0 b) a)).1,restM (s.extract 0 b) ((ykeyM (s.extract 0 b) (blk (s.extract 0 b) a)).1+1))
       else some (5,none,restM (s.extract 0 b) (blk (s.extract 0 b) a)):=rfl
      generalize hp:blk (s.extract 0 b) a=p at *
      by_cases hA:p=b
      ·exact yl_A s a b p V w hT hs hab hbs hG0 hcl0 hp hpl hpg hA (by rw[HL3.o,HLD,if_pos (by omega)];rfl)
      ·have hlt:p<b:=by omega
       rw[if_neg (by omega)]at HLD
       by_cases hB:byt (s.extract 0 b) p=35
       ·exact yl_B s a b p V w hT hs hab hbs hG0 hcl0 hp hpl hpg hlt hB (by rw[HL3.o,HLD,if_pos hB];rfl)
       ·rw[if_neg hB]at HLD
        cases hC:sgn (s.extract 0 b) p 45 with
        |true=>exact yl_C s a b p V w hT hs hab hbs hG0 hcl0 hp hpl hpg hlt hB hC (by rw[HL3.o,HLD,if_pos hC];rfl)
        |false=>
         rw[if_neg (by rw[hC];exact Bool.false_ne_true)]at HLD
         have hkb:=keyM_bd (s.extract 0 b) p (by omega)
         cases hK:ykeyM (s.extract 0 b) p with
         |mk e ok=>
          rw[hK]at HLD hkb
          cases ok with
          |false=>exact yl_D s a b p V w hT hs hab hbs hG0 hcl0 hp hpl hpg hlt hB hC (by rw[hK]) (by rw[HL3.o,HLD,if_pos rfl];rfl)
          |true=>
           rw[if_neg (fun h=>by cases h)]at HLD
           simp only at hkb HLD
           by_cases hE:p<e
           ·exact yl_E s a b p V w hT hs hab hbs hG0 hcl0 hp hpl hpg hlt hB hC e hE (by have:=(hkb.2.2 hE).2.1;omega) hK (by rw[HL3.o,HLD,if_pos hE];rfl)
           ·obtain rfl:e=p:=by omega
            exact yl_F s a b e V w hT hs hab hbs hG0 hcl0 hp hpl hpg hlt hB hC hK (by rw[HL3.o,HLD,if_neg hE];rfl)
     ·have HN:=hq (HL2.o.trans (if_pos hcl))
      clear hG0 hT0
      rw[decide_eq_false hcl]at HCL
      clear HL2 hcl
      generalize cleanM (s.extract a b) true=cm at *
      go_enter Tryz.func27,Tryz.ntmps27
      go_wp2_with fail
      refine(HCT.o _).mono ?_
      rintro e w' ⟨rfl,rfl⟩
      clear HCT
      go_wp2_with fail
      refine(HCL.o _ HT.o).mono ?_
      rintro e w1 ⟨rfl,hb1⟩
      have hx1:=HX1.o.grow hb1
      have hx2:=HX2.o.grow hb1
      have hB1:=HBA.o.trans (hb1.mono (by rw[HWZ.o];omega))
      clear hb1 HBA HX1 HX2 HCL HT
      have c0:=hx1.at_ 0
      have c1:=hx1.at_ 1
      have d0:=hx2.at_ 0
      have f0:=hx2.free 0
      have e0:=hx2.at_ 0
      have f0':=hx2.free 0
      have e1:=hx2.at_ 1
      have f1':=hx2.free 1
      have e2:=hx2.at_ 2
      have f2':=hx2.free 2
      have e3:=hx2.at_ 3
      have f3':=hx2.free 3
      have e4:=hx2.at_ 4
      have f4':=hx2.free 4
      have e5:=hx2.at_ 5
      have f5':=hx2.free 5
      have e6:=hx2.at_ 6
      have f6':=hx2.free 6
      have e7:=hx2.at_ 7
      have f7':=hx2.free 7
      have e8:=hx2.at_ 8
      have f8':=hx2.free 8
      have e9:=hx2.at_ 9
      have f9':=hx2.free 9
      go_upto_region 5 with fail
      go_region
      go_wp2_with fail
      refine bodyPost_ret (v:= .tuple #[.agg zero10,.int .i64 ((a:Int)+(cm:Int)),.int .i64 2]) ?_ rfl ⟨by rw[HN.o];try rfl,?_⟩
      ·simp[results,Tryz.results27,go_sem,e0,e1,e2,e3,e4,e5,e6,e7,e8,e9]
      ·exact ((((((((((hB1.setCell (by simp) _).setCell (by simp) _).setCell (by simp) _).setCell (by simp) _).setCell (by simp) _).setCell (by simp) _).setCell (by simp) _).setCell (by simp) _).setCell (by simp) _).setCell (by simp) _).drew
end Go.Proofs.YtkafjblfjdpdaaaGreatDoor
namespace Go.Proofs.YtkafjblfjdpdaaaGreatDoor
open Go.RowKit
def bodyAt(p:Nat)(kd:Nat)(ko:Option Nat):Nat:=match ko with|some e=>e+1|none=>if kd=3 then p+1 else p
structure LineOk(s:ByteArray)(p:Nat)(kd:Nat)(ko:Option Nat)(r0 r1:Nat)(no:Option Nat):Prop where
 kl:1≤kd
 ku:kd≤5
 key: ∀e,ko=some e→kd=4∧p<e∧e<s.size∧byt s e=58
 nokey:ko=none→kd≠4
 item:kd=3→p<s.size∧byt s p=45
 lo:bodyAt p kd ko≤r0
 mid:r0≤r1
 hi:r1≤s.size
 lead: ∀i,bodyAt p kd ko≤i→i<r0→byt s i=32
 note: ∀c,no=some c→r1≤c∧c<s.size∧byt s c=35∧ ∀i,r1≤i→i<c→byt s i=32
 nonote:no=none→ ∀i,r1≤i→i<s.size→byt s i=32
 ends:r0<r1→byt s r0≠32∧byt s (r1-1)≠32
theorem extract_all(s:ByteArray):s.extract 0 s.size=s:=by
 refine ba_ext (Array.ext' ?_)
 rw[tail_list,List.drop_zero]
theorem lineM_all(s:ByteArray):lineM s 0 (s.size:Int)=if hasLF s=true then(lineZ,0,1) else if¬cleanM s true=s.size then(lineZ,(cleanM s true:Int),2) else lineF 0 s.size (blk s 0) (lineD s (blk s 0)):=by
 unfold lineM
 rw[if_neg (by omega)]
 unfold lineN
 simp only[Int.toNat_natCast,Int.toNat_zero,extract_all]
 split
 ·rfl
 ·split
  ·simp
  ·rfl
def Blanks(t:ByteArray)(n:Nat):Prop:= ∀i,i<n→byt t i=32
end Go.Proofs.YtkafjblfjdpdaaaGreatDoor
namespace Go.Proofs.YtkafjblfjdpdaaaGreatDoor
open Go.RowKit
theorem no_lf {l:Bs} (h: ∀c∈l,32≤c.toNat):Lib.indexByte l 10=-1:=by
 induction l with
 |nil=>rfl
 |cons c l ih=>
  have h1:=h c (by simp)
  have h2:=ih (fun x hx=>h x (List.mem_cons_of_mem _ hx))
  unfold Lib.indexByte
  rw[if_neg,h2]
  ·rfl
  ·intro e
   have e:c=10:=by simpa using e
   rw[e]at h1
   exact absurd h1 (by decide)
theorem line_of {T:ByteArray} {n:Nat} {d:Nat×Option Nat×(Nat×Nat)×Option Nat} (hv:Vd T.data.toList)(hp: ∀c∈T.data.toList,32≤c.toNat∧c≠127)(hb:blk T 0=n)(hd:lineD T n=some d):lineM T 0 (T.size:Int)=(lineR 0 T.size n d,(T.size:Int),0):=by
 have hst:st T.data.toList=T:=ba_ext (by simp)
 have hc:cleanM T true=T.size:=clean_line (by have:=hv.valid;rwa [hst]at this) hp
 have hl:hasLF T=false:=by
  unfold hasLF
  rw[no_lf (fun c hc=>(hp c hc).1)]
  rfl
 rw[lineM_all,hl,if_neg (by decide),if_neg (by rw[hc];exact fun h=>h rfl),hb,hd]
 rfl
theorem low_app {a b:Bs} (ha: ∀c∈a,32≤c.toNat∧c≠127)(hb: ∀c∈b,32≤c.toNat∧c≠127): ∀c∈a++b,32≤c.toNat∧c≠127:=fun c hc=>(List.mem_append.1 hc).elim (ha c) (hb c)
theorem line_entry {k l:Bs} (hk:LineT k)(hk2:QtT k∨bareL k=true)(h:LineT l)(hl:QtT l∨NoQt l)(n:Nat):
 lineM (st (List.replicate n 32++(k++(58::32::l)))) 0 ((st (List.replicate n 32++(k++(58::32::l)))).size:Int)=(lineR 0 (st (List.replicate n 32++(k++(58::32::l)))).size n (4,some (n+k.length),(n+k.length+2,(st (List.replicate n 32++(k++(58::32::l)))).size),none),((st (List.replicate n 32++(k++(58::32::l)))).size:Int),0):=by
 obtain⟨h1,h2⟩:=entry_line hk hk2 h hl (T:=st (List.replicate n 32++(k++(58::32::l)))) (n:=n) (st_list _)
 have hbk:=blanks_line n
 refine line_of ?_ ?_ h1 h2
 ·rw[st_list]
  exact hbk.1.app (hk.vd.app (.cons (by decide) (.cons (by decide) h.vd)))
 ·rw[st_list]
  refine low_app hbk.2 (low_app hk.pl ?_)
  intro c hc
  rcases List.mem_cons.1 hc with rfl|hc
  ·decide
  ·rcases List.mem_cons.1 hc with rfl|hc
   ·decide
   ·exact h.pl c hc
theorem line_item {l:Bs} (h:LineT l)(hl:QtT l∨NoQt l)(n:Nat):
 lineM (st (List.replicate n 32++(45::32::l))) 0 ((st (List.replicate n 32++(45::32::l))).size:Int)=(lineR 0 (st (List.replicate n 32++(45::32::l))).size n (3,none,(n+2,(st (List.replicate n 32++(45::32::l))).size),none),((st (List.replicate n 32++(45::32::l))).size:Int),0):=by
 obtain⟨h1,h2⟩:=item_line h hl (T:=st (List.replicate n 32++(45::32::l))) (n:=n) (st_list _)
 have hbk:=blanks_line n
 refine line_of ?_ ?_ h1 h2
 ·rw[st_list]
  exact hbk.1.app (.cons (by decide) (.cons (by decide) h.vd))
 ·rw[st_list]
  refine low_app hbk.2 ?_
  intro c hc
  rcases List.mem_cons.1 hc with rfl|hc
  ·decide
  ·rcases List.mem_cons.1 hc with rfl|hc
   ·decide
   ·exact h.pl c hc
theorem st_cut(a b c:Bs):(st (a++(b++c))).extract a.length (a.length+b.length)=st b:=by
 refine ba_ext (Array.ext' ?_)
 rw[ByteArray.data_extract,Array.toList_extract,List.extract_eq_take_drop]
 show((a++(b++c)).drop a.length).take (a.length+b.length-a.length)=b
 rw[List.drop_left,Nat.add_sub_cancel_left,List.take_left]
end Go.Proofs.YtkafjblfjdpdaaaGreatDoor
