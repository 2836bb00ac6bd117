/-
  WALKS: yline.Line.
-/
import Derived.Test.YtkafjblfjdpdaaaGreatDoorYlR
namespace Go.Proofs.YtkafjblfjdpdaaaGreatDoor
open Go.RowKit
structure LineR where
 (kind a b ind k0 k1 r0 r1 n0 n1:Int)
abbrev LineR.val(x:LineR):Value:= .agg #[.int .i64 x.kind,.int .i64 x.a,.int .i64 x.b,.int .i64 x.ind,.int .i64 x.k0,.int .i64 x.k1,.int .i64 x.r0,.int .i64 x.r1,.int .i64 x.n0,.int .i64 x.n1]
def lineZ:LineR:=⟨0,0,0,0,0,0,0,0,0,0⟩
def lineR(a b p:Nat)(d:Nat×Option Nat×(Nat×Nat)×Option Nat):LineR:=
 ⟨d.1,a,b,(p:Int)-a,(match d.2.1 with|none=>0|some _=>(p:Int)),(match d.2.1 with|none=>0|some e=>(e:Int)),d.2.2.1.1,d.2.2.1.2,
  (match d.2.2.2 with|none=>0|some n=>(n:Int)),(match d.2.2.2 with|none=>0|some _=>(b:Int))⟩
theorem noteA_is(s:ByteArray)(o:Option Nat): ∃n0 n1:Int,noteV s o= .agg #[.int .i64 n0,.int .i64 n1]∧n0=(match o with|none=>0|some n=>(n:Int))∧n1=(match o with|none=>0|some _=>(s.size:Int)):=by
 cases o with
 |none=>exact⟨0,0,rfl,rfl,rfl⟩
 |some c=>exact⟨c,s.size,rfl,rfl,rfl⟩
theorem lineR_note(a b p k:Nat)(e:Option Nat)(r:(Nat×Nat)×Option Nat)(n0 n1:Int)(h:n0=(match r.2 with|none=>0|some n=>(n:Int))∧n1=(match r.2 with|none=>0|some _=>(b:Int))):
 lineR a b p (k,e,r)=⟨k,a,b,(p:Int)-a,(match e with|none=>0|some _=>(p:Int)),(match e with|none=>0|some e=>(e:Int)),r.1.1,r.1.2,n0,n1⟩:=by
 rw[h.1,h.2];rfl
def hasLF(t:ByteArray):Bool:=decide (0≤Lib.indexByte t.data.toList 10)
def lineF(a b p:Nat):Option (Nat×Option Nat×(Nat×Nat)×Option Nat)→LineR×Int×Int
 |none=>(lineZ,(p:Int),2)
 |some d=>(lineR a b p d,(b:Int),0)
def lineN(s:ByteArray)(a b:Nat):LineR×Int×Int:=
 if hasLF (s.extract a b)=true then(lineZ,0,1)
 else if¬cleanM (s.extract a b) true=(s.extract a b).size then(lineZ,(a:Int)+(cleanM (s.extract a b) true:Int),2)
 else lineF a b (blk (s.extract 0 b) a) (lineD (s.extract 0 b) (blk (s.extract 0 b) a))
def lineM(s:ByteArray)(a b:Int):LineR×Int×Int:=
 if a<0∨b<a∨(s.size:Int)<b then(lineZ,0,1) else lineN s a.toNat b.toNat
def LinePost(x:LineR×Int×Int)(w:World)(e:Ending)(w':World):Prop:=
 e= .returned (.tuple #[x.1.val,.int .i64 x.2.1,.int .i64 x.2.2])∧Below w.heap.size w w'
abbrev zero10:Array Value:= #[.int .i64 0,.int .i64 0,.int .i64 0,.int .i64 0,.int .i64 0,.int .i64 0,.int .i64 0,.int .i64 0,.int .i64 0,.int .i64 0]
set_option maxHeartbeats 4000000 in
set_option maxRecDepth 1000000 in
theorem yl_A(s:ByteArray)(a b p:Nat)(V:LineR×Int×Int)(w:World)(hT:tabs w)(hs:s.size≤1099511627776)(hab:a≤b)(hbs:b≤s.size)
 (hlf:hasLF (s.extract a b)=false) (hcl:cleanM (s.extract a b) true=(s.extract a b).size) (hp:blk (s.extract 0 b) a=p) (hpl:p≤b) (hpg:a≤p)
 (hA:p=b) (hV:V=(lineR a b p (1,none,(p,p),none),(b:Int),0)):
 Calls Tryz.prog 27 #[.string s,.agg #[.int .i64 (a:Int),.int .i64 (b:Int)]] w (LinePost V w):=by
 have hBA:=(below_alloc w (.cells #[.int .i64 (a:Int),.int .i64 (b:Int)] 44)).alloc (by simp) (.cells zero10 46)
 have hX1:=(Whole.made w 44 #[.int .i64 (a:Int),.int .i64 (b:Int)]).alloc (.cells zero10 46)
 have hX2:=Whole.made (w.alloc (.cells #[.int .i64 (a:Int),.int .i64 (b:Int)] 44)) 46 zero10
 rw[World.size_alloc]at hX2
 have HT:=hq (tabs_grow hT hBA)
 have HBA:=hq hBA
 have HX1:=hq hX1
 have HX2:=hq hX2
 have hwz:((w.alloc (.cells #[.int .i64 (a:Int),.int .i64 (b:Int)] 44)).alloc (.cells zero10 46)).heap.size=w.heap.size+1+1:=by simp
 have HWZ:=hq hwz
 clear hT hBA hX1 hX2 hwz
 have huz:(s.extract 0 b).size=b:=by rw[ByteArray.size_extract];omega
 have HUZ:=hq huz
 have HCT:=hq (fun W=>Tryz.strings_Contains_one (s.extract a b) 10 W)
 have hlf2:hasLF (s.extract a b)=decide (0≤Lib.indexByte (s.extract a b).data.toList 10):=rfl
 rw[←hlf2,hlf]at HCT
 have HCL:=hq (fun W (hW:tabs W)=>yclean_any (s.extract a b) W hW (by rw[ByteArray.size_extract];omega))
 have hcle:(s.extract a b).size≤b:=by rw[ByteArray.size_extract];omega
 rw[decide_eq_true hcl,hcl]at HCL
 have HP:=hq hp
 have HBK:=hq (fun W=>yblanks_any (s.extract 0 b) a W (by rw[HUZ.o];omega) (by rw[HUZ.o];omega))
 rw[HP.o]at HBK
 clear huz hlf2 hlf hcl hp
 have HN:=hq hV
 clear hV
 go_enter Tryz.func27,Tryz.ntmps27
 go_wp2_with fail
 refine(HCT.o _).mono ?_
 rintro e w' ⟨rfl,rfl⟩
 clear HCT
 go_wp2_with fail
 refine(HCL.o _ HT.o).mono ?_
 rintro e w1 ⟨rfl,hb1⟩
 have hx1:=HX1.o.grow hb1
 have hx2:=HX2.o.grow hb1
 have hB1:=HBA.o.trans (hb1.mono (by rw[HWZ.o];omega))
 have hz1:=hb1.size
 rw[HWZ.o]at hz1
 have HT1:=hq (tabs_grow HT.o hb1)
 clear hb1 HBA HX1 HX2 HCL HT HWZ
 have c0:=hx1.at_ 0
 have c1:=hx1.at_ 1
 go_upto_region 7 with fail
 generalize (s.extract a b).size=cm at *
 generalize s.extract 0 b=U at *
 obtain rfl:b=U.size:=HUZ.o.symm
 go_upto_region 8 with (refine(HBK.o _).mono ?_;rintro e w' ⟨rfl,hw⟩;obtain rfl:=hw)
 clear HBK HUZ HP
 obtain rfl:p=U.size:=hA
 have HZ1:=hq (hx1.alloc (.cells #[.int .i64 1,.int .i64 (a:Int),.int .i64 (U.size:Int),.int .i64 ((U.size:Int)-(a:Int)),.int .i64 0,.int .i64 0,.int .i64 (U.size:Int),.int .i64 (U.size:Int),.int .i64 0,.int .i64 0] 46))
 have HZ2:=hq (hx2.alloc (.cells #[.int .i64 1,.int .i64 (a:Int),.int .i64 (U.size:Int),.int .i64 ((U.size:Int)-(a:Int)),.int .i64 0,.int .i64 0,.int .i64 (U.size:Int),.int .i64 (U.size:Int),.int .i64 0,.int .i64 0] 46))
 have HZ3:=hq (Whole.made w1 46 #[.int .i64 1,.int .i64 (a:Int),.int .i64 (U.size:Int),.int .i64 ((U.size:Int)-(a:Int)),.int .i64 0,.int .i64 0,.int .i64 (U.size:Int),.int .i64 (U.size:Int),.int .i64 0,.int .i64 0])
 have HB4:=hq (hB1.alloc (by omega) (.cells #[.int .i64 1,.int .i64 (a:Int),.int .i64 (U.size:Int),.int .i64 ((U.size:Int)-(a:Int)),.int .i64 0,.int .i64 0,.int .i64 (U.size:Int),.int .i64 (U.size:Int),.int .i64 0,.int .i64 0] 46))
 have HT4:=hq (tabs_grow HT1.o (below_alloc w1 (.cells #[.int .i64 1,.int .i64 (a:Int),.int .i64 (U.size:Int),.int .i64 ((U.size:Int)-(a:Int)),.int .i64 0,.int .i64 0,.int .i64 (U.size:Int),.int .i64 (U.size:Int),.int .i64 0,.int .i64 0] 46)))
 have HW4:Hq ((w1.alloc (.cells #[.int .i64 1,.int .i64 (a:Int),.int .i64 (U.size:Int),.int .i64 ((U.size:Int)-(a:Int)),.int .i64 0,.int .i64 0,.int .i64 (U.size:Int),.int .i64 (U.size:Int),.int .i64 0,.int .i64 0] 46)).heap.size=w1.heap.size+1):=hq (by simp)
 clear hx1 hx2 hB1
 go_upto_region 23 with fail
 generalize w1.alloc (.cells #[.int .i64 1,.int .i64 (a:Int),.int .i64 (U.size:Int),.int .i64 ((U.size:Int)-(a:Int)),.int .i64 0,.int .i64 0,.int .i64 (U.size:Int),.int .i64 (U.size:Int),.int .i64 0,.int .i64 0] 46)=wz at *
 have n0:=HZ3.o.at_ 0
 have n1:=HZ3.o.at_ 1
 have n2:=HZ3.o.at_ 2
 have n3:=HZ3.o.at_ 3
 have n4:=HZ3.o.at_ 4
 have n5:=HZ3.o.at_ 5
 have n6:=HZ3.o.at_ 6
 have n7:=HZ3.o.at_ 7
 have n8:=HZ3.o.at_ 8
 have n9:=HZ3.o.at_ 9
 have d0:=HZ1.o.at_ 0
 have d1:=HZ1.o.at_ 1
 have e0:=HZ2.o.at_ 0
 have e1:=HZ2.o.at_ 1
 have e2:=HZ2.o.at_ 2
 have e3:=HZ2.o.at_ 3
 have e4:=HZ2.o.at_ 4
 have e5:=HZ2.o.at_ 5
 have e6:=HZ2.o.at_ 6
 have e7:=HZ2.o.at_ 7
 have e8:=HZ2.o.at_ 8
 have e9:=HZ2.o.at_ 9
 have f0:=HZ2.o.free 0
 have f1:=HZ2.o.free 1
 have f2:=HZ2.o.free 2
 have f3:=HZ2.o.free 3
 have f4:=HZ2.o.free 4
 have f5:=HZ2.o.free 5
 have f6:=HZ2.o.free 6
 have f7:=HZ2.o.free 7
 have f8:=HZ2.o.free 8
 have f9:=HZ2.o.free 9
 go_region
 go_wp2_with fail
 refine bodyPost_ret (v:= .tuple #[.agg #[.int .i64 1,.int .i64 (a:Int),.int .i64 (U.size:Int),.int .i64 ((U.size:Int)-(a:Int)),.int .i64 0,.int .i64 0,.int .i64 (U.size:Int),.int .i64 (U.size:Int),.int .i64 0,.int .i64 0],.int .i64 (U.size:Int),.int .i64 0]) ?_ rfl ⟨by rw[HN.o];try rfl,?_⟩
 ·simp[results,Tryz.results27,go_sem,e0,e1,e2,e3,e4,e5,e6,e7,e8,e9]
 ·exact ((((((((((HB4.o.setCell (by simp) _).setCell (by simp) _).setCell (by simp) _).setCell (by simp) _).setCell (by simp) _).setCell (by simp) _).setCell (by simp) _).setCell (by simp) _).setCell (by simp) _).setCell (by simp) _).drew
set_option maxHeartbeats 4000000 in
set_option maxRecDepth 1000000 in
theorem yl_B(s:ByteArray)(a b p:Nat)(V:LineR×Int×Int)(w:World)(hT:tabs w)(hs:s.size≤1099511627776)(hab:a≤b)(hbs:b≤s.size)
 (hlf:hasLF (s.extract a b)=false) (hcl:cleanM (s.extract a b) true=(s.extract a b).size) (hp:blk (s.extract 0 b) a=p) (hpl:p≤b) (hpg:a≤p) (hlt:p<b)
 (hB:byt (s.extract 0 b) p=35) (hV:V=(lineR a b p (2,none,(p,p),some p),(b:Int),0)):
 Calls Tryz.prog 27 #[.string s,.agg #[.int .i64 (a:Int),.int .i64 (b:Int)]] w (LinePost V w):=by
 have hBA:=(below_alloc w (.cells #[.int .i64 (a:Int),.int .i64 (b:Int)] 44)).alloc (by simp) (.cells zero10 46)
 have hX1:=(Whole.made w 44 #[.int .i64 (a:Int),.int .i64 (b:Int)]).alloc (.cells zero10 46)
 have hX2:=Whole.made (w.alloc (.cells #[.int .i64 (a:Int),.int .i64 (b:Int)] 44)) 46 zero10
 rw[World.size_alloc]at hX2
 have HT:=hq (tabs_grow hT hBA)
 have HBA:=hq hBA
 have HX1:=hq hX1
 have HX2:=hq hX2
 have hwz:((w.alloc (.cells #[.int .i64 (a:Int),.int .i64 (b:Int)] 44)).alloc (.cells zero10 46)).heap.size=w.heap.size+1+1:=by simp
 have HWZ:=hq hwz
 clear hT hBA hX1 hX2 hwz
 have huz:(s.extract 0 b).size=b:=by rw[ByteArray.size_extract];omega
 have HUZ:=hq huz
 have HCT:=hq (fun W=>Tryz.strings_Contains_one (s.extract a b) 10 W)
 have hlf2:hasLF (s.extract a b)=decide (0≤Lib.indexByte (s.extract a b).data.toList 10):=rfl
 rw[←hlf2,hlf]at HCT
 have HCL:=hq (fun W (hW:tabs W)=>yclean_any (s.extract a b) W hW (by rw[ByteArray.size_extract];omega))
 have hcle:(s.extract a b).size≤b:=by rw[ByteArray.size_extract];omega
 rw[decide_eq_true hcl,hcl]at HCL
 have HP:=hq hp
 have HBK:=hq (fun W=>yblanks_any (s.extract 0 b) a W (by rw[HUZ.o];omega) (by rw[HUZ.o];omega))
 rw[HP.o]at HBK
 clear huz hlf2 hlf hcl hp
 have HN:=hq hV
 have huu:(s.extract 0 b).size=b:=by rw[ByteArray.size_extract];omega
 have hpU:p<(s.extract 0 b).size:=by omega
 have y0:(((s.extract 0 b)[p]'hpU).toNat:Int)=(byt (s.extract 0 b) p:Int):=by rw[byt_eq _ p hpU]
 have eA:((p:Int)==((s.extract 0 b).size:Int))=false:=beq_int_false (by omega)
 clear huu
 rw[hB]at y0
 clear hV hB
 go_enter Tryz.func27,Tryz.ntmps27
 go_wp2_with fail
 refine(HCT.o _).mono ?_
 rintro e w' ⟨rfl,rfl⟩
 clear HCT
 go_wp2_with fail
 refine(HCL.o _ HT.o).mono ?_
 rintro e w1 ⟨rfl,hb1⟩
 have hx1:=HX1.o.grow hb1
 have hx2:=HX2.o.grow hb1
 have hB1:=HBA.o.trans (hb1.mono (by rw[HWZ.o];omega))
 have hz1:=hb1.size
 rw[HWZ.o]at hz1
 have HT1:=hq (tabs_grow HT.o hb1)
 clear hb1 HBA HX1 HX2 HCL HT HWZ
 have c0:=hx1.at_ 0
 have c1:=hx1.at_ 1
 go_upto_region 7 with fail
 generalize (s.extract a b).size=cm at *
 generalize s.extract 0 b=U at *
 obtain rfl:b=U.size:=HUZ.o.symm
 go_upto_region 8 with (refine(HBK.o _).mono ?_;rintro e w' ⟨rfl,hw⟩;obtain rfl:=hw)
 clear HBK HUZ HP
 have HZ1:=hq (hx1.alloc (.cells #[.int .i64 2,.int .i64 (a:Int),.int .i64 (U.size:Int),.int .i64 ((p:Int)-(a:Int)),.int .i64 0,.int .i64 0,.int .i64 (p:Int),.int .i64 (p:Int),.int .i64 (p:Int),.int .i64 (U.size:Int)] 46))
 have HZ2:=hq (hx2.alloc (.cells #[.int .i64 2,.int .i64 (a:Int),.int .i64 (U.size:Int),.int .i64 ((p:Int)-(a:Int)),.int .i64 0,.int .i64 0,.int .i64 (p:Int),.int .i64 (p:Int),.int .i64 (p:Int),.int .i64 (U.size:Int)] 46))
 have HZ3:=hq (Whole.made w1 46 #[.int .i64 2,.int .i64 (a:Int),.int .i64 (U.size:Int),.int .i64 ((p:Int)-(a:Int)),.int .i64 0,.int .i64 0,.int .i64 (p:Int),.int .i64 (p:Int),.int .i64 (p:Int),.int .i64 (U.size:Int)])
 have HB4:=hq (hB1.alloc (by omega) (.cells #[.int .i64 2,.int .i64 (a:Int),.int .i64 (U.size:Int),.int .i64 ((p:Int)-(a:Int)),.int .i64 0,.int .i64 0,.int .i64 (p:Int),.int .i64 (p:Int),.int .i64 (p:Int),.int .i64 (U.size:Int)] 46))
 have HT4:=hq (tabs_grow HT1.o (below_alloc w1 (.cells #[.int .i64 2,.int .i64 (a:Int),.int .i64 (U.size:Int),.int .i64 ((p:Int)-(a:Int)),.int .i64 0,.int .i64 0,.int .i64 (p:Int),.int .i64 (p:Int),.int .i64 (p:Int),.int .i64 (U.size:Int)] 46)))
 have HW4:Hq ((w1.alloc (.cells #[.int .i64 2,.int .i64 (a:Int),.int .i64 (U.size:Int),.int .i64 ((p:Int)-(a:Int)),.int .i64 0,.int .i64 0,.int .i64 (p:Int),.int .i64 (p:Int),.int .i64 (p:Int),.int .i64 (U.size:Int)] 46)).heap.size=w1.heap.size+1):=hq (by simp)
 clear hx1 hx2 hB1
 go_upto_region 23 with fail
 generalize w1.alloc (.cells #[.int .i64 2,.int .i64 (a:Int),.int .i64 (U.size:Int),.int .i64 ((p:Int)-(a:Int)),.int .i64 0,.int .i64 0,.int .i64 (p:Int),.int .i64 (p:Int),.int .i64 (p:Int),.int .i64 (U.size:Int)] 46)=wz at *
 have n0:=HZ3.o.at_ 0
 have n1:=HZ3.o.at_ 1
 have n2:=HZ3.o.at_ 2
 have n3:=HZ3.o.at_ 3
 have n4:=HZ3.o.at_ 4
 have n5:=HZ3.o.at_ 5
 have n6:=HZ3.o.at_ 6
 have n7:=HZ3.o.at_ 7
 have n8:=HZ3.o.at_ 8
 have n9:=HZ3.o.at_ 9
 have d0:=HZ1.o.at_ 0
 have d1:=HZ1.o.at_ 1
 have e0:=HZ2.o.at_ 0
 have e1:=HZ2.o.at_ 1
 have e2:=HZ2.o.at_ 2
 have e3:=HZ2.o.at_ 3
 have e4:=HZ2.o.at_ 4
 have e5:=HZ2.o.at_ 5
 have e6:=HZ2.o.at_ 6
 have e7:=HZ2.o.at_ 7
 have e8:=HZ2.o.at_ 8
 have e9:=HZ2.o.at_ 9
 have f0:=HZ2.o.free 0
 have f1:=HZ2.o.free 1
 have f2:=HZ2.o.free 2
 have f3:=HZ2.o.free 3
 have f4:=HZ2.o.free 4
 have f5:=HZ2.o.free 5
 have f6:=HZ2.o.free 6
 have f7:=HZ2.o.free 7
 have f8:=HZ2.o.free 8
 have f9:=HZ2.o.free 9
 go_region
 go_wp2_with fail
 refine bodyPost_ret (v:= .tuple #[.agg #[.int .i64 2,.int .i64 (a:Int),.int .i64 (U.size:Int),.int .i64 ((p:Int)-(a:Int)),.int .i64 0,.int .i64 0,.int .i64 (p:Int),.int .i64 (p:Int),.int .i64 (p:Int),.int .i64 (U.size:Int)],.int .i64 (U.size:Int),.int .i64 0]) ?_ rfl ⟨by rw[HN.o];try rfl,?_⟩
 ·simp[results,Tryz.results27,go_sem,e0,e1,e2,e3,e4,e5,e6,e7,e8,e9]
 ·exact ((((((((((HB4.o.setCell (by simp) _).setCell (by simp) _).setCell (by simp) _).setCell (by simp) _).setCell (by simp) _).setCell (by simp) _).setCell (by simp) _).setCell (by simp) _).setCell (by simp) _).setCell (by simp) _).drew
set_option maxHeartbeats 4000000 in
set_option maxRecDepth 1000000 in
theorem yl_D(s:ByteArray)(a b p:Nat)(V:LineR×Int×Int)(w:World)(hT:tabs w)(hs:s.size≤1099511627776)(hab:a≤b)(hbs:b≤s.size)
 (hlf:hasLF (s.extract a b)=false) (hcl:cleanM (s.extract a b) true=(s.extract a b).size) (hp:blk (s.extract 0 b) a=p) (hpl:p≤b) (hpg:a≤p) (hlt:p<b)
 (hB:byt (s.extract 0 b) p≠35) (hC:sgn (s.extract 0 b) p 45=false)
 (hD:(ykeyM (s.extract 0 b) p).2=false) (hV:V=(lineZ,(p:Int),2)):
 Calls Tryz.prog 27 #[.string s,.agg #[.int .i64 (a:Int),.int .i64 (b:Int)]] w (LinePost V w):=by
 have hBA:=(below_alloc w (.cells #[.int .i64 (a:Int),.int .i64 (b:Int)] 44)).alloc (by simp) (.cells zero10 46)
 have hX1:=(Whole.made w 44 #[.int .i64 (a:Int),.int .i64 (b:Int)]).alloc (.cells zero10 46)
 have hX2:=Whole.made (w.alloc (.cells #[.int .i64 (a:Int),.int .i64 (b:Int)] 44)) 46 zero10
 rw[World.size_alloc]at hX2
 have HT:=hq (tabs_grow hT hBA)
 have HBA:=hq hBA
 have HX1:=hq hX1
 have HX2:=hq hX2
 have hwz:((w.alloc (.cells #[.int .i64 (a:Int),.int .i64 (b:Int)] 44)).alloc (.cells zero10 46)).heap.size=w.heap.size+1+1:=by simp
 have HWZ:=hq hwz
 clear hT hBA hX1 hX2 hwz
 have huz:(s.extract 0 b).size=b:=by rw[ByteArray.size_extract];omega
 have HUZ:=hq huz
 have HCT:=hq (fun W=>Tryz.strings_Contains_one (s.extract a b) 10 W)
 have hlf2:hasLF (s.extract a b)=decide (0≤Lib.indexByte (s.extract a b).data.toList 10):=rfl
 rw[←hlf2,hlf]at HCT
 have HCL:=hq (fun W (hW:tabs W)=>yclean_any (s.extract a b) W hW (by rw[ByteArray.size_extract];omega))
 have hcle:(s.extract a b).size≤b:=by rw[ByteArray.size_extract];omega
 rw[decide_eq_true hcl,hcl]at HCL
 have HP:=hq hp
 have HBK:=hq (fun W=>yblanks_any (s.extract 0 b) a W (by rw[HUZ.o];omega) (by rw[HUZ.o];omega))
 rw[HP.o]at HBK
 clear huz hlf2 hlf hcl hp
 have huu:(s.extract 0 b).size=b:=by rw[ByteArray.size_extract];omega
 have hpU:p<(s.extract 0 b).size:=by omega
 have y0:(((s.extract 0 b)[p]'hpU).toNat:Int)=(byt (s.extract 0 b) p:Int):=by rw[byt_eq _ p hpU]
 have eA:((p:Int)==((s.extract 0 b).size:Int))=false:=beq_int_false (by omega)
 have eB:((byt (s.extract 0 b) p:Int)==35)=false:=beq_int_false hB
 have HSG:=hq (fun W=>ysign_any (s.extract 0 b) p 45 W (by omega) (by omega))
 rw[hC]at HSG
 have HKY:=hq (fun W (hW:tabs W)=>ykey_any (s.extract 0 b) p W hW (by omega) hpU)
 have HN:=hq hV
 generalize ykeyM (s.extract 0 b) p=KK at *
 obtain⟨ke,ko⟩:=KK
 obtain rfl:ko=false:=hD
 clear hB hC huu hV
 generalize byt (s.extract 0 b) p=cc at *
 go_enter Tryz.func27,Tryz.ntmps27
 go_wp2_with fail
 refine(HCT.o _).mono ?_
 rintro e w' ⟨rfl,rfl⟩
 clear HCT
 go_wp2_with fail
 refine(HCL.o _ HT.o).mono ?_
 rintro e w1 ⟨rfl,hb1⟩
 have hx1:=HX1.o.grow hb1
 have hx2:=HX2.o.grow hb1
 have hB1:=HBA.o.trans (hb1.mono (by rw[HWZ.o];omega))
 have hz1:=hb1.size
 rw[HWZ.o]at hz1
 have HT1:=hq (tabs_grow HT.o hb1)
 clear hb1 HBA HX1 HX2 HCL HT HWZ
 have c0:=hx1.at_ 0
 have c1:=hx1.at_ 1
 go_upto_region 7 with fail
 generalize (s.extract a b).size=cm at *
 generalize s.extract 0 b=U at *
 obtain rfl:b=U.size:=HUZ.o.symm
 go_upto_region 8 with (refine(HBK.o _).mono ?_;rintro e w' ⟨rfl,hw⟩;obtain rfl:=hw)
 clear HBK HUZ HP
 have HZ1:=hq (hx1.alloc (.cells #[.int .i64 5,.int .i64 (a:Int),.int .i64 (U.size:Int),.int .i64 ((p:Int)-(a:Int)),.int .i64 0,.int .i64 0,.int .i64 0,.int .i64 0,.int .i64 0,.int .i64 0] 46))
 have HZ2:=hq (hx2.alloc (.cells #[.int .i64 5,.int .i64 (a:Int),.int .i64 (U.size:Int),.int .i64 ((p:Int)-(a:Int)),.int .i64 0,.int .i64 0,.int .i64 0,.int .i64 0,.int .i64 0,.int .i64 0] 46))
 have HZ3:=hq (Whole.made w1 46 #[.int .i64 5,.int .i64 (a:Int),.int .i64 (U.size:Int),.int .i64 ((p:Int)-(a:Int)),.int .i64 0,.int .i64 0,.int .i64 0,.int .i64 0,.int .i64 0,.int .i64 0])
 have HB4:=hq (hB1.alloc (by omega) (.cells #[.int .i64 5,.int .i64 (a:Int),.int .i64 (U.size:Int),.int .i64 ((p:Int)-(a:Int)),.int .i64 0,.int .i64 0,.int .i64 0,.int .i64 0,.int .i64 0,.int .i64 0] 46))
 have HT4:=hq (tabs_grow HT1.o (below_alloc w1 (.cells #[.int .i64 5,.int .i64 (a:Int),.int .i64 (U.size:Int),.int .i64 ((p:Int)-(a:Int)),.int .i64 0,.int .i64 0,.int .i64 0,.int .i64 0,.int .i64 0,.int .i64 0] 46)))
 have HW4:Hq ((w1.alloc (.cells #[.int .i64 5,.int .i64 (a:Int),.int .i64 (U.size:Int),.int .i64 ((p:Int)-(a:Int)),.int .i64 0,.int .i64 0,.int .i64 0,.int .i64 0,.int .i64 0,.int .i64 0] 46)).heap.size=w1.heap.size+1):=hq (by simp)
 clear hx1 hx2 hB1
 go_wp2_with fail
 refine(HSG.o _).mono ?_
 rintro e w' ⟨rfl,hw⟩
 obtain rfl:=hw
 clear HSG
 go_wp2_with fail
 generalize w1.alloc (.cells #[.int .i64 5,.int .i64 (a:Int),.int .i64 (U.size:Int),.int .i64 ((p:Int)-(a:Int)),.int .i64 0,.int .i64 0,.int .i64 0,.int .i64 0,.int .i64 0,.int .i64 0] 46)=wz at *
 refine(HKY.o _ HT4.o).mono ?_
 rintro e w2 ⟨rfl,hb2⟩
 clear HKY
 have hz2':=HZ2.o.grow hb2
 have hb4':=HB4.o.trans (hb2.mono (by rw[HW4.o];omega))
 have e0:=hz2'.at_ 0
 have f0:=hz2'.free 0
 have e1:=hz2'.at_ 1
 have f1:=hz2'.free 1
 have e2:=hz2'.at_ 2
 have f2:=hz2'.free 2
 have e3:=hz2'.at_ 3
 have f3:=hz2'.free 3
 have e4:=hz2'.at_ 4
 have f4:=hz2'.free 4
 have e5:=hz2'.at_ 5
 have f5:=hz2'.free 5
 have e6:=hz2'.at_ 6
 have f6:=hz2'.free 6
 have e7:=hz2'.at_ 7
 have f7:=hz2'.free 7
 have e8:=hz2'.at_ 8
 have f8:=hz2'.free 8
 have e9:=hz2'.at_ 9
 have f9:=hz2'.free 9
 clear hb2 HZ1 HZ2 HZ3 HB4 HT4 HW4
 go_wp2_with fail
 refine bodyPost_ret (v:= .tuple #[.agg zero10,.int .i64 (p:Int),.int .i64 2]) ?_ rfl ⟨by rw[HN.o];try rfl,?_⟩
 ·simp[results,Tryz.results27,go_sem,e0,e1,e2,e3,e4,e5,e6,e7,e8,e9]
 ·exact ((((((((((hb4'.setCell (by simp) _).setCell (by simp) _).setCell (by simp) _).setCell (by simp) _).setCell (by simp) _).setCell (by simp) _).setCell (by simp) _).setCell (by simp) _).setCell (by simp) _).setCell (by simp) _)
end Go.Proofs.YtkafjblfjdpdaaaGreatDoor
