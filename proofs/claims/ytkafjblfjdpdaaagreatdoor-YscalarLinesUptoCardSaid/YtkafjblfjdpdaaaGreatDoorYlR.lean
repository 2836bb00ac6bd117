/-
  WALKS: yline.rest.
-/
import Derived.Test.YtkafjblfjdpdaaaGreatDoorYlK
import Derived.RegionTactic
import Derived.BigRegion
namespace Go.Proofs.YtkafjblfjdpdaaaGreatDoor
open Go.RowKit
def noteV(s:ByteArray):Option Nat→Value
 |none=> .agg #[.int .i64 0,.int .i64 0]
 |some c=> .agg #[.int .i64 (c:Int),.int .i64 (s.size:Int)]
def YRestPost(s:ByteArray)(x:(Nat×Nat)×Option Nat)(w:World)(e:Ending)(w':World):Prop:=
 e= .returned (.tuple #[.agg #[.int .i64 (x.1.1:Int),.int .i64 (x.1.2:Int)],noteV s x.2])∧Below w.heap.size w w'
theorem trm_end {s:ByteArray} {a t:Nat} (h: ¬a<t)(h2:a≤t):trm s a t=a:=by
 have:=(trm_bd s a t h2)
 omega
theorem trm_step {s:ByteArray} {a t:Nat} (h:a<t)(h1:byt s (t-1)=32):trm s a t=trm s a (t-1):=by
 obtain⟨u,rfl⟩: ∃u,t=u+1:=⟨t-1,by omega⟩
 rw[trm,if_pos ⟨h,h1⟩];rfl
theorem trm_stop {s:ByteArray} {a t:Nat} (h:a<t)(h1:byt s (t-1)≠32):trm s a t=t:=by
 obtain⟨u,rfl⟩: ∃u,t=u+1:=⟨t-1,by omega⟩
 rw[trm,if_neg (fun hh=>h1 hh.2)]
set_option maxHeartbeats 4000000 in
set_option maxRecDepth 1000000 in
theorem yrest_any(s:ByteArray)(p:Nat)(w:World)(hT:tabs w)(hs:s.size≤1099511627776)(hp:p≤s.size):
 Calls Tryz.prog 64 #[.string s,.int .i64 (p:Int)] w (YRestPost s (restM s p) w):=by
 have HS:Hq (restM s p=((blk s p,trm s (blk s p) (cmtTo s (look s (blk s p)))),if cmtTo s (look s (blk s p))<s.size then some (cmtTo s (look s (blk s p))) else none)):=hq rfl
 have hbl:=blk_le s p hp
 have HBK:=hq (fun W=>yblanks_any s p W hs hp)
 generalize restM s p=V at *
 generalize blk s p=a at *
 have HQ:=hq (fun W (hW:tabs W)=>yquoted_any s a W hW hs hbl)
 have hlk:=look_bd s a hbl
 have HLK:Hq (look s a=if (qtd s a).2.2=true then(qtd s a).1 else a):=hq rfl
 have HQL:=hq (qtd_bd s a hbl).2.1
 generalize qtd s a=Q at *
 generalize look s a=k at *
 obtain⟨qe,qb,qo⟩:=Q
 obtain⟨hl1,hl2⟩:=hlk
 have hb0:=(below_alloc w (.cells #[.int .i64 0,.int .i64 0] 44)).alloc (by simp) (.cells #[.int .i64 0,.int .i64 0] 44)
 have HT:=hq (tabs_grow hT hb0)
 have hx1:=(Whole.made w 44 #[.int .i64 0,.int .i64 0]).alloc (.cells #[.int .i64 0,.int .i64 0] 44)
 have hx2:=Whole.made (w.alloc (.cells #[.int .i64 0,.int .i64 0] 44)) 44 #[.int .i64 0,.int .i64 0]
 rw[World.size_alloc]at hx2
 have HX1:=hq hx1
 have HX2:=hq hx2
 have HB0:=hq hb0
 have hes:(s.extract k s.size).size=s.size-k:=by rw[ByteArray.size_extract];omega
 have HEX:=hq hes
 have HDC:Hq (∀pos,k+pos<s.size→Utf8.decode (s.extract k s.size) pos=Utf8.decode s (k+pos)):=hq (fun pos h=>dec_cut s k s.size pos (Nat.le_refl _) (.inl rfl) h)
 clear hT hx1 hx2 hb0 hes
 have key:(qo=true∧k=qe)∨(qo=false∧k=a):=by
  have:=HLK.o
  cases qo with
  |true=>exact .inl ⟨rfl,this⟩
  |false=>exact .inr ⟨rfl,this⟩
 clear HLK HQL
 rcases key with ⟨rfl,hke⟩|⟨rfl,hke⟩
 ·go_enter Tryz.func64,Tryz.ntmps64
  go_wp2_with fail
  refine(HBK.o _).mono ?_
  rintro e w' ⟨rfl,hw⟩
  obtain rfl:=hw
  clear HBK
  go_wp2_with fail
  refine(HQ.o _ HT.o).mono ?_
  rintro e w1 ⟨rfl,hb1⟩
  have hx1:=HX1.o.grow hb1
  have hx2:=HX2.o.grow hb1
  have hb2:=HB0.o.trans (hb1.mono (by simp;omega))
  have hz1:=hb1.size
  simp only[World.size_alloc]at hz1
  have hy1:=(hx1.alloc (.cells #[.int .i64 0,.int .i64 0] 44)).alloc (.stringIter (s.extract k s.size) 0)
  have hy2:=(hx2.alloc (.cells #[.int .i64 0,.int .i64 0] 44)).alloc (.stringIter (s.extract k s.size) 0)
  have hy3:=(Whole.made w1 44 #[.int .i64 0,.int .i64 0]).alloc (.stringIter (s.extract k s.size) 0)
  have hb3:=(hb2.alloc (by omega) (.cells #[.int .i64 0,.int .i64 0] 44)).alloc (by simp;omega) (.stringIter (s.extract k s.size) 0)
  have hit0:=World.iter_heap (w1.alloc (.cells #[.int .i64 0,.int .i64 0] 44)) (s.extract k s.size) 0
  rw[World.size_alloc]at hit0
  have HY1:=hq hy1
  have HY2:=hq hy2
  have HY3:=hq hy3
  have HB3:=hq hb3
  have HIT0:=hq hit0
  have HW1:Hq (w.heap.size+1<w1.heap.size):=hq (by omega)
  clear HQ HX1 HX2 HB0 hx1 hx2 hb1 hb2 hy1 hy2 hy3 hb3 hit0 HT
  subst hke
  go_wp2_with fail
  generalize s.extract k s.size=U at *
  go_loopw [11] (fun ttv wr=> ∃(pos:Nat),k+pos≤s.size∧ttv= .int .i64 (s.size:Int)∧wr.heap[w1.heap.size+1]?=some (.stringIter U pos)∧Below w.heap.size w wr∧Hq (cmtTo s k=cmtTo s (k+pos))∧Hq (Whole wr w.heap.size 44 #[.int .i64 0,.int .i64 0])∧Hq (Whole wr (w.heap.size+1) 44 #[.int .i64 0,.int .i64 0])∧Hq (Whole wr w1.heap.size 44 #[.int .i64 0,.int .i64 0])) (fun _ wr=>s.size-wr.iterPos (w1.heap.size+1))
  case atStart=>exact⟨0,by omega,rfl,HIT0.o,HB3.o,hq rfl,HY1,HY2,HY3⟩
  case round=>
   obtain⟨pos,hps,rfl,hit,hbr,hv,hr1,hr2,hr3⟩:=hrel
   clear HB3 HIT0 HY1 HY2 HY3
   have hlt:w1.heap.size+1<wr.heap.size:=(Array.getElem?_eq_some_iff.1 hit).1
   have hw1:=HW1.o
   by_cases hq1:k+pos<s.size
   ·have hpU:pos<U.size:=by rw[HEX.o];omega
    have hd:=HDC.o pos hq1
    have hnx: ∀ty,(Instr.next (.pointer (some ⟨w1.heap.size+1,0,none⟩)) true ty).run Tryz.prog wr=_:=fun ty=>Lib.run_next_any_at wr (w1.heap.size+1) U pos ty hit hpU
    have hwp:=wd_pos s (k+pos)
    have hwl:=wd_le s (k+pos) hq1
    have hit2:=Lib.iterAt_heap wr (w1.heap.size+1) U pos (pos+(Utf8.decode U pos).2) hit
    have hb2:=Lib.below_iterAt hbr (k:=w1.heap.size+1) (by omega) U (pos+(Utf8.decode U pos).2)
    rw[hd]at hnx hit2 hb2
    have k1:=dec_is s (k+pos) 35 (by omega)
    have HIT:=hq hit2
    have HB2:=hq hb2
    have hr1':Hq (Whole (wr.iterAt (w1.heap.size+1) U (pos+(Utf8.decode s (k+pos)).2)) w.heap.size 44 #[.int .i64 0,.int .i64 0]):=hq ((Lib.iterAt_other wr (w1.heap.size+1) w.heap.size U _ (by omega)).trans hr1.o)
    have hr2':Hq (Whole (wr.iterAt (w1.heap.size+1) U (pos+(Utf8.decode s (k+pos)).2)) (w.heap.size+1) 44 #[.int .i64 0,.int .i64 0]):=hq ((Lib.iterAt_other wr (w1.heap.size+1) (w.heap.size+1) U _ (by omega)).trans hr2.o)
    have hr3':Hq (Whole (wr.iterAt (w1.heap.size+1) U (pos+(Utf8.decode s (k+pos)).2)) w1.heap.size 44 #[.int .i64 0,.int .i64 0]):=hq ((Lib.iterAt_other wr (w1.heap.size+1) w1.heap.size U _ (by omega)).trans hr3.o)
    have hm0:Hq (wr.iterPos (w1.heap.size+1)=pos):=hq (by simp only[World.iterPos,hit])
    have hm1:Hq ((wr.iterAt (w1.heap.size+1) U (pos+(Utf8.decode s (k+pos)).2)).iterPos (w1.heap.size+1)=pos+wd s (k+pos)):=hq (by simp only[World.iterPos,hit2];rfl)
    have HCM:=hq (fun W h35=>ycomment_any s (k+pos) W hs hq1 h35)
    have hcast:((k+pos:Nat):Int)=(k:Int)+(pos:Int):=by omega
    rw[hcast]at HCM
    clear hit2 hb2 hd hcast HDC hit hbr hr1 hr2 hr3
    by_cases h35:byt s (k+pos)=35
    ·have e3:((((Utf8.decode s (k+pos)).1:Nat):Int)==35)=true:=by rw[k1.2 h35];rfl
     have HC:=hq (fun W=>HCM.o W h35)
     cases hc:cmt s (k+pos) with
     |true=>
      rw[hc]at HC
      have HCT:Hq (cmtTo s k=k+pos):=hq (by rw[hv.o,cmtTo_hit hq1 hc])
      clear hv HCM h35 hc k1
      go_wp2_with fail
      refine(HC.o _).mono ?_
      rintro e w2 ⟨rfl,hw⟩
      obtain rfl:=hw
      clear HC
      have g0:=hr3'.o.at_ 0
      have g1:=hr3'.o.at_ 1
      have g2:=hr3'.o.free 0
      have g3:=hr3'.o.free 1
      go_upto_region 14 with fail
      have HZ1:=hq ((hr1'.o.far (p:=⟨w1.heap.size,0,none⟩) (by simp only;omega) (.int .i64 ((k:Int)+(pos:Int)))).far (p:=⟨w1.heap.size,1,none⟩) (by simp only;omega) (.int .i64 (s.size:Int)))
      have HZ2:=hq ((hr2'.o.far (p:=⟨w1.heap.size,0,none⟩) (by simp only;omega) (.int .i64 ((k:Int)+(pos:Int)))).far (p:=⟨w1.heap.size,1,none⟩) (by simp only;omega) (.int .i64 (s.size:Int)))
      have HZ3:Hq (Whole _ w1.heap.size 44 #[.int .i64 ((k:Int)+(pos:Int)),.int .i64 (s.size:Int)]):=hq ((hr3'.o.put 0 (.int .i64 ((k:Int)+(pos:Int)))).put 1 (.int .i64 (s.size:Int)))
      have HB4:=hq ((HB2.o.setCell (p:=⟨w1.heap.size,0,none⟩) (by simp only;omega) (.int .i64 ((k:Int)+(pos:Int)))).setCell (p:=⟨w1.heap.size,1,none⟩) (by simp only;omega) (.int .i64 (s.size:Int)))
      generalize ((wr.iterAt (w1.heap.size+1) U (pos+(Utf8.decode s (k+pos)).2)).setCell ⟨w1.heap.size,0,none⟩ (.int .i64 ((k:Int)+(pos:Int)))).setCell ⟨w1.heap.size,1,none⟩ (.int .i64 (s.size:Int))=wz at *
      clear hr1' hr2' hr3' HB2 HIT hm0 hm1 g0 g1 g2 g3 hnx
      have hac:a≤k+pos:=by omega
      have hcs:k+pos≤s.size:=by omega
      have hbd:=HZ1.o.lt
      go_loop [11] (fun v=> ∃t:Nat,a≤t∧t≤s.size∧v= .int .i64 (t:Int)∧Hq (trm s a (k+pos)=trm s a t)) (fun v=>(intOf v).toNat)
      case atStart=>exact⟨k+pos,hac,hcs,int_eq (by omega),hq rfl⟩
      case round=>
       obtain⟨t,ht1,ht2,rfl,htr⟩:=hrel
       have n0:=HZ3.o.at_ 0
       have n1:=HZ3.o.at_ 1
       have d0:=HZ1.o.at_ 0
       have d1:=HZ1.o.at_ 1
       have d2:=HZ2.o.at_ 0
       have d3:=HZ2.o.at_ 1
       have f0:=HZ1.o.free 0
       have f1:=HZ1.o.free 1
       have f2:=HZ2.o.free 0
       have f3:=HZ2.o.free 1
       by_cases hlt2:a<t
       ·have hti:t-1<s.size:=by omega
        have y0:((s[t-1]'hti).toNat:Int)=(byt s (t-1):Int):=by rw[byt_eq s (t-1) hti]
        have hz:((t:Int)-1).toNat=t-1:=by omega
        by_cases h32:byt s (t-1)=32
        ·have e9:((byt s (t-1):Int)==32)=true:=beq_int_true h32
         have HN2:Hq (trm s a (k+pos)=trm s a (t-1)):=hq (by rw[htr.o,trm_step hlt2 h32])
         clear h32 htr
         generalize byt s (t-1)=c0 at *
         go_wp2_with fail
         go_round
         case rel=>exact⟨t-1,by omega,by omega,int_eq (by omega),HN2⟩
         case measure=>simp[intOf];omega
        ·have e9:((byt s (t-1):Int)==32)=false:=beq_int_false h32
         have HN2:Hq (V=((a,t),some (k+pos))):=hq (by rw[HS.o,HCT.o,show trm s a (k+pos)=t by rw[htr.o,trm_stop hlt2 h32]];rw[if_pos hq1])
         clear h32 htr
         generalize byt s (t-1)=c0 at *
         go_wp2_with fail
         go_region
         go_wp2_with fail
         refine bodyPost_ret (v:= .tuple #[.agg #[.int .i64 (a:Int),.int .i64 (t:Int)],.agg #[.int .i64 ((k:Int)+(pos:Int)),.int .i64 (s.size:Int)]]) ?_ rfl ⟨by rw[HN2.o];rfl,?_⟩
         ·simp[results,Tryz.results64,go_sem,d0,d1,d2,d3]
         ·exact ((((HB4.o.setCell (by simp) _).setCell (by simp) _).setCell (by simp) _).setCell (by simp) _).drew
       ·have hta:t=a:=by omega
        have HN2:Hq (V=((a,t),some (k+pos))):=hq (by rw[HS.o,HCT.o,show trm s a (k+pos)=t by rw[htr.o,trm_end hlt2 ht1,hta]];rw[if_pos hq1])
        clear htr hta
        go_wp2_with fail
        go_region
        go_wp2_with fail
        refine bodyPost_ret (v:= .tuple #[.agg #[.int .i64 (a:Int),.int .i64 (t:Int)],.agg #[.int .i64 ((k:Int)+(pos:Int)),.int .i64 (s.size:Int)]]) ?_ rfl ⟨by rw[HN2.o];rfl,?_⟩
        ·simp[results,Tryz.results64,go_sem,d0,d1,d2,d3]
        ·exact ((((HB4.o.setCell (by simp) _).setCell (by simp) _).setCell (by simp) _).setCell (by simp) _).drew
     |false=>
      rw[hc]at HC
      have HN:Hq (cmtTo s k=cmtTo s (k+(pos+wd s (k+pos)))):=hq (by rw[hv.o,cmtTo_rune hq1 hc,Nat.add_assoc])
      clear hv HCM h35 hc k1
      go_wp2_with fail
      refine(HC.o _).mono ?_
      rintro e w2 ⟨rfl,hw⟩
      obtain rfl:=hw
      clear HC
      go_wp2_with fail
      go_roundw
      case rel=>exact⟨pos+wd s (k+pos),by omega,rfl,HIT.o,HB2.o,HN,hr1',hr2',hr3'⟩
      case measure=>rw[hm1.o,hm0.o];omega
    ·have e3:((((Utf8.decode s (k+pos)).1:Nat):Int)==35)=false:=beq_eq_false_iff_ne.2 (by have:=mt k1.1 h35;omega)
     have HN:Hq (cmtTo s k=cmtTo s (k+(pos+wd s (k+pos)))):=hq (by rw[hv.o,cmtTo_rune hq1 (high_cmt h35),Nat.add_assoc])
     clear hv HCM h35 k1
     go_wp2_with fail
     go_roundw
     case rel=>exact⟨pos+wd s (k+pos),by omega,rfl,HIT.o,HB2.o,HN,hr1',hr2',hr3'⟩
     case measure=>rw[hm1.o,hm0.o];omega
   ·have hpU: ¬pos<U.size:=by rw[HEX.o];omega
    have hnx: ∀ty,(Instr.next (.pointer (some ⟨w1.heap.size+1,0,none⟩)) true ty).run Tryz.prog wr=_:=fun ty=>Lib.run_next_end_at wr (w1.heap.size+1) U pos ty hit hpU
    have HCT:Hq (cmtTo s k=s.size):=hq (by rw[hv.o,cmtTo_end hq1])
    clear hv
    go_upto_region 14 with fail
    have HZ1:=hr1
    have HZ2:=hr2
    have HZ3:=hr3
    have HB4:=hq hbr
    clear hr1 hr2 hr3 hbr hnx hit
    have hac:a≤s.size:=by omega
    have hcs:s.size≤s.size:=by omega
    have hbd:=HZ1.o.lt
    go_loop [11] (fun v=> ∃t:Nat,a≤t∧t≤s.size∧v= .int .i64 (t:Int)∧Hq (trm s a (s.size)=trm s a t)) (fun v=>(intOf v).toNat)
    case atStart=>exact⟨s.size,hac,hcs,int_eq (by omega),hq rfl⟩
    case round=>
     obtain⟨t,ht1,ht2,rfl,htr⟩:=hrel
     have n0:=HZ3.o.at_ 0
     have n1:=HZ3.o.at_ 1
     have d0:=HZ1.o.at_ 0
     have d1:=HZ1.o.at_ 1
     have d2:=HZ2.o.at_ 0
     have d3:=HZ2.o.at_ 1
     have f0:=HZ1.o.free 0
     have f1:=HZ1.o.free 1
     have f2:=HZ2.o.free 0
     have f3:=HZ2.o.free 1
     by_cases hlt2:a<t
     ·have hti:t-1<s.size:=by omega
      have y0:((s[t-1]'hti).toNat:Int)=(byt s (t-1):Int):=by rw[byt_eq s (t-1) hti]
      have hz:((t:Int)-1).toNat=t-1:=by omega
      by_cases h32:byt s (t-1)=32
      ·have e9:((byt s (t-1):Int)==32)=true:=beq_int_true h32
       have HN2:Hq (trm s a (s.size)=trm s a (t-1)):=hq (by rw[htr.o,trm_step hlt2 h32])
       clear h32 htr
       generalize byt s (t-1)=c0 at *
       go_wp2_with fail
       go_round
       case rel=>exact⟨t-1,by omega,by omega,int_eq (by omega),HN2⟩
       case measure=>simp[intOf];omega
      ·have e9:((byt s (t-1):Int)==32)=false:=beq_int_false h32
       have HN2:Hq (V=((a,t),none)):=hq (by rw[HS.o,HCT.o,show trm s a (s.size)=t by rw[htr.o,trm_stop hlt2 h32]];rw[if_neg (Nat.lt_irrefl _)])
       clear h32 htr
       generalize byt s (t-1)=c0 at *
       go_wp2_with fail
       go_region
       go_wp2_with fail
       refine bodyPost_ret (v:= .tuple #[.agg #[.int .i64 (a:Int),.int .i64 (t:Int)],.agg #[.int .i64 0,.int .i64 0]]) ?_ rfl ⟨by rw[HN2.o];rfl,?_⟩
       ·simp[results,Tryz.results64,go_sem,d0,d1,d2,d3]
       ·exact ((((HB4.o.setCell (by simp) _).setCell (by simp) _).setCell (by simp) _).setCell (by simp) _).drew
     ·have hta:t=a:=by omega
      have HN2:Hq (V=((a,t),none)):=hq (by rw[HS.o,HCT.o,show trm s a (s.size)=t by rw[htr.o,trm_end hlt2 ht1,hta]];rw[if_neg (Nat.lt_irrefl _)])
      clear htr hta
      go_wp2_with fail
      go_region
      go_wp2_with fail
      refine bodyPost_ret (v:= .tuple #[.agg #[.int .i64 (a:Int),.int .i64 (t:Int)],.agg #[.int .i64 0,.int .i64 0]]) ?_ rfl ⟨by rw[HN2.o];rfl,?_⟩
      ·simp[results,Tryz.results64,go_sem,d0,d1,d2,d3]
      ·exact ((((HB4.o.setCell (by simp) _).setCell (by simp) _).setCell (by simp) _).setCell (by simp) _).drew
 ·go_enter Tryz.func64,Tryz.ntmps64
  go_wp2_with fail
  refine(HBK.o _).mono ?_
  rintro e w' ⟨rfl,hw⟩
  obtain rfl:=hw
  clear HBK
  go_wp2_with fail
  refine(HQ.o _ HT.o).mono ?_
  rintro e w1 ⟨rfl,hb1⟩
  have hx1:=HX1.o.grow hb1
  have hx2:=HX2.o.grow hb1
  have hb2:=HB0.o.trans (hb1.mono (by simp;omega))
  have hz1:=hb1.size
  simp only[World.size_alloc]at hz1
  have hy1:=(hx1.alloc (.cells #[.int .i64 0,.int .i64 0] 44)).alloc (.stringIter (s.extract k s.size) 0)
  have hy2:=(hx2.alloc (.cells #[.int .i64 0,.int .i64 0] 44)).alloc (.stringIter (s.extract k s.size) 0)
  have hy3:=(Whole.made w1 44 #[.int .i64 0,.int .i64 0]).alloc (.stringIter (s.extract k s.size) 0)
  have hb3:=(hb2.alloc (by omega) (.cells #[.int .i64 0,.int .i64 0] 44)).alloc (by simp;omega) (.stringIter (s.extract k s.size) 0)
  have hit0:=World.iter_heap (w1.alloc (.cells #[.int .i64 0,.int .i64 0] 44)) (s.extract k s.size) 0
  rw[World.size_alloc]at hit0
  have HY1:=hq hy1
  have HY2:=hq hy2
  have HY3:=hq hy3
  have HB3:=hq hb3
  have HIT0:=hq hit0
  have HW1:Hq (w.heap.size+1<w1.heap.size):=hq (by omega)
  clear HQ HX1 HX2 HB0 hx1 hx2 hb1 hb2 hy1 hy2 hy3 hb3 hit0 HT
  subst hke
  go_wp2_with fail
  generalize s.extract k s.size=U at *
  go_loopw [11] (fun ttv wr=> ∃(pos:Nat),k+pos≤s.size∧ttv= .int .i64 (s.size:Int)∧wr.heap[w1.heap.size+1]?=some (.stringIter U pos)∧Below w.heap.size w wr∧Hq (cmtTo s k=cmtTo s (k+pos))∧Hq (Whole wr w.heap.size 44 #[.int .i64 0,.int .i64 0])∧Hq (Whole wr (w.heap.size+1) 44 #[.int .i64 0,.int .i64 0])∧Hq (Whole wr w1.heap.size 44 #[.int .i64 0,.int .i64 0])) (fun _ wr=>s.size-wr.iterPos (w1.heap.size+1))
  case atStart=>exact⟨0,by omega,rfl,HIT0.o,HB3.o,hq rfl,HY1,HY2,HY3⟩
  case round=>
   obtain⟨pos,hps,rfl,hit,hbr,hv,hr1,hr2,hr3⟩:=hrel
   clear HB3 HIT0 HY1 HY2 HY3
   have hlt:w1.heap.size+1<wr.heap.size:=(Array.getElem?_eq_some_iff.1 hit).1
   have hw1:=HW1.o
   by_cases hq1:k+pos<s.size
   ·have hpU:pos<U.size:=by rw[HEX.o];omega
    have hd:=HDC.o pos hq1
    have hnx: ∀ty,(Instr.next (.pointer (some ⟨w1.heap.size+1,0,none⟩)) true ty).run Tryz.prog wr=_:=fun ty=>Lib.run_next_any_at wr (w1.heap.size+1) U pos ty hit hpU
    have hwp:=wd_pos s (k+pos)
    have hwl:=wd_le s (k+pos) hq1
    have hit2:=Lib.iterAt_heap wr (w1.heap.size+1) U pos (pos+(Utf8.decode U pos).2) hit
    have hb2:=Lib.below_iterAt hbr (k:=w1.heap.size+1) (by omega) U (pos+(Utf8.decode U pos).2)
    rw[hd]at hnx hit2 hb2
    have k1:=dec_is s (k+pos) 35 (by omega)
    have HIT:=hq hit2
    have HB2:=hq hb2
    have hr1':Hq (Whole (wr.iterAt (w1.heap.size+1) U (pos+(Utf8.decode s (k+pos)).2)) w.heap.size 44 #[.int .i64 0,.int .i64 0]):=hq ((Lib.iterAt_other wr (w1.heap.size+1) w.heap.size U _ (by omega)).trans hr1.o)
    have hr2':Hq (Whole (wr.iterAt (w1.heap.size+1) U (pos+(Utf8.decode s (k+pos)).2)) (w.heap.size+1) 44 #[.int .i64 0,.int .i64 0]):=hq ((Lib.iterAt_other wr (w1.heap.size+1) (w.heap.size+1) U _ (by omega)).trans hr2.o)
    have hr3':Hq (Whole (wr.iterAt (w1.heap.size+1) U (pos+(Utf8.decode s (k+pos)).2)) w1.heap.size 44 #[.int .i64 0,.int .i64 0]):=hq ((Lib.iterAt_other wr (w1.heap.size+1) w1.heap.size U _ (by omega)).trans hr3.o)
    have hm0:Hq (wr.iterPos (w1.heap.size+1)=pos):=hq (by simp only[World.iterPos,hit])
    have hm1:Hq ((wr.iterAt (w1.heap.size+1) U (pos+(Utf8.decode s (k+pos)).2)).iterPos (w1.heap.size+1)=pos+wd s (k+pos)):=hq (by simp only[World.iterPos,hit2];rfl)
    have HCM:=hq (fun W h35=>ycomment_any s (k+pos) W hs hq1 h35)
    have hcast:((k+pos:Nat):Int)=(k:Int)+(pos:Int):=by omega
    rw[hcast]at HCM
    clear hit2 hb2 hd hcast HDC hit hbr hr1 hr2 hr3
    by_cases h35:byt s (k+pos)=35
    ·have e3:((((Utf8.decode s (k+pos)).1:Nat):Int)==35)=true:=by rw[k1.2 h35];rfl
     have HC:=hq (fun W=>HCM.o W h35)
     cases hc:cmt s (k+pos) with
     |true=>
      rw[hc]at HC
      have HCT:Hq (cmtTo s k=k+pos):=hq (by rw[hv.o,cmtTo_hit hq1 hc])
      clear hv HCM h35 hc k1
      go_wp2_with fail
      refine(HC.o _).mono ?_
      rintro e w2 ⟨rfl,hw⟩
      obtain rfl:=hw
      clear HC
      have g0:=hr3'.o.at_ 0
      have g1:=hr3'.o.at_ 1
      have g2:=hr3'.o.free 0
      have g3:=hr3'.o.free 1
      go_upto_region 14 with fail
      have HZ1:=hq ((hr1'.o.far (p:=⟨w1.heap.size,0,none⟩) (by simp only;omega) (.int .i64 ((k:Int)+(pos:Int)))).far (p:=⟨w1.heap.size,1,none⟩) (by simp only;omega) (.int .i64 (s.size:Int)))
      have HZ2:=hq ((hr2'.o.far (p:=⟨w1.heap.size,0,none⟩) (by simp only;omega) (.int .i64 ((k:Int)+(pos:Int)))).far (p:=⟨w1.heap.size,1,none⟩) (by simp only;omega) (.int .i64 (s.size:Int)))
      have HZ3:Hq (Whole _ w1.heap.size 44 #[.int .i64 ((k:Int)+(pos:Int)),.int .i64 (s.size:Int)]):=hq ((hr3'.o.put 0 (.int .i64 ((k:Int)+(pos:Int)))).put 1 (.int .i64 (s.size:Int)))
      have HB4:=hq ((HB2.o.setCell (p:=⟨w1.heap.size,0,none⟩) (by simp only;omega) (.int .i64 ((k:Int)+(pos:Int)))).setCell (p:=⟨w1.heap.size,1,none⟩) (by simp only;omega) (.int .i64 (s.size:Int)))
      generalize ((wr.iterAt (w1.heap.size+1) U (pos+(Utf8.decode s (k+pos)).2)).setCell ⟨w1.heap.size,0,none⟩ (.int .i64 ((k:Int)+(pos:Int)))).setCell ⟨w1.heap.size,1,none⟩ (.int .i64 (s.size:Int))=wz at *
      clear hr1' hr2' hr3' HB2 HIT hm0 hm1 g0 g1 g2 g3 hnx
      have hac:k≤k+pos:=by omega
      have hcs:k+pos≤s.size:=by omega
      have hbd:=HZ1.o.lt
      go_loop [11] (fun v=> ∃t:Nat,k≤t∧t≤s.size∧v= .int .i64 (t:Int)∧Hq (trm s k (k+pos)=trm s k t)) (fun v=>(intOf v).toNat)
      case atStart=>exact⟨k+pos,hac,hcs,int_eq (by omega),hq rfl⟩
      case round=>
       obtain⟨t,ht1,ht2,rfl,htr⟩:=hrel
       have n0:=HZ3.o.at_ 0
       have n1:=HZ3.o.at_ 1
       have d0:=HZ1.o.at_ 0
       have d1:=HZ1.o.at_ 1
       have d2:=HZ2.o.at_ 0
       have d3:=HZ2.o.at_ 1
       have f0:=HZ1.o.free 0
       have f1:=HZ1.o.free 1
       have f2:=HZ2.o.free 0
       have f3:=HZ2.o.free 1
       by_cases hlt2:k<t
       ·have hti:t-1<s.size:=by omega
        have y0:((s[t-1]'hti).toNat:Int)=(byt s (t-1):Int):=by rw[byt_eq s (t-1) hti]
        have hz:((t:Int)-1).toNat=t-1:=by omega
        by_cases h32:byt s (t-1)=32
        ·have e9:((byt s (t-1):Int)==32)=true:=beq_int_true h32
         have HN2:Hq (trm s k (k+pos)=trm s k (t-1)):=hq (by rw[htr.o,trm_step hlt2 h32])
         clear h32 htr
         generalize byt s (t-1)=c0 at *
         go_wp2_with fail
         go_round
         case rel=>exact⟨t-1,by omega,by omega,int_eq (by omega),HN2⟩
         case measure=>simp[intOf];omega
        ·have e9:((byt s (t-1):Int)==32)=false:=beq_int_false h32
         have HN2:Hq (V=((k,t),some (k+pos))):=hq (by rw[HS.o,HCT.o,show trm s k (k+pos)=t by rw[htr.o,trm_stop hlt2 h32]];rw[if_pos hq1])
         clear h32 htr
         generalize byt s (t-1)=c0 at *
         go_wp2_with fail
         go_region
         go_wp2_with fail
         refine bodyPost_ret (v:= .tuple #[.agg #[.int .i64 (k:Int),.int .i64 (t:Int)],.agg #[.int .i64 ((k:Int)+(pos:Int)),.int .i64 (s.size:Int)]]) ?_ rfl ⟨by rw[HN2.o];rfl,?_⟩
         ·simp[results,Tryz.results64,go_sem,d0,d1,d2,d3]
         ·exact ((((HB4.o.setCell (by simp) _).setCell (by simp) _).setCell (by simp) _).setCell (by simp) _).drew
       ·have hta:t=k:=by omega
        have HN2:Hq (V=((k,t),some (k+pos))):=hq (by rw[HS.o,HCT.o,show trm s k (k+pos)=t by rw[htr.o,trm_end hlt2 ht1,hta]];rw[if_pos hq1])
        clear htr hta
        go_wp2_with fail
        go_region
        go_wp2_with fail
        refine bodyPost_ret (v:= .tuple #[.agg #[.int .i64 (k:Int),.int .i64 (t:Int)],.agg #[.int .i64 ((k:Int)+(pos:Int)),.int .i64 (s.size:Int)]]) ?_ rfl ⟨by rw[HN2.o];rfl,?_⟩
        ·simp[results,Tryz.results64,go_sem,d0,d1,d2,d3]
        ·exact ((((HB4.o.setCell (by simp) _).setCell (by simp) _).setCell (by simp) _).setCell (by simp) _).drew
     |false=>
      rw[hc]at HC
      have HN:Hq (cmtTo s k=cmtTo s (k+(pos+wd s (k+pos)))):=hq (by rw[hv.o,cmtTo_rune hq1 hc,Nat.add_assoc])
      clear hv HCM h35 hc k1
      go_wp2_with fail
      refine(HC.o _).mono ?_
      rintro e w2 ⟨rfl,hw⟩
      obtain rfl:=hw
      clear HC
      go_wp2_with fail
      go_roundw
      case rel=>exact⟨pos+wd s (k+pos),by omega,rfl,HIT.o,HB2.o,HN,hr1',hr2',hr3'⟩
      case measure=>rw[hm1.o,hm0.o];omega
    ·have e3:((((Utf8.decode s (k+pos)).1:Nat):Int)==35)=false:=beq_eq_false_iff_ne.2 (by have:=mt k1.1 h35;omega)
     have HN:Hq (cmtTo s k=cmtTo s (k+(pos+wd s (k+pos)))):=hq (by rw[hv.o,cmtTo_rune hq1 (high_cmt h35),Nat.add_assoc])
     clear hv HCM h35 k1
     go_wp2_with fail
     go_roundw
     case rel=>exact⟨pos+wd s (k+pos),by omega,rfl,HIT.o,HB2.o,HN,hr1',hr2',hr3'⟩
     case measure=>rw[hm1.o,hm0.o];omega
   ·have hpU: ¬pos<U.size:=by rw[HEX.o];omega
    have hnx: ∀ty,(Instr.next (.pointer (some ⟨w1.heap.size+1,0,none⟩)) true ty).run Tryz.prog wr=_:=fun ty=>Lib.run_next_end_at wr (w1.heap.size+1) U pos ty hit hpU
    have HCT:Hq (cmtTo s k=s.size):=hq (by rw[hv.o,cmtTo_end hq1])
    clear hv
    go_upto_region 14 with fail
    have HZ1:=hr1
    have HZ2:=hr2
    have HZ3:=hr3
    have HB4:=hq hbr
    clear hr1 hr2 hr3 hbr hnx hit
    have hac:k≤s.size:=by omega
    have hcs:s.size≤s.size:=by omega
    have hbd:=HZ1.o.lt
    go_loop [11] (fun v=> ∃t:Nat,k≤t∧t≤s.size∧v= .int .i64 (t:Int)∧Hq (trm s k (s.size)=trm s k t)) (fun v=>(intOf v).toNat)
    case atStart=>exact⟨s.size,hac,hcs,int_eq (by omega),hq rfl⟩
    case round=>
     obtain⟨t,ht1,ht2,rfl,htr⟩:=hrel
     have n0:=HZ3.o.at_ 0
     have n1:=HZ3.o.at_ 1
     have d0:=HZ1.o.at_ 0
     have d1:=HZ1.o.at_ 1
     have d2:=HZ2.o.at_ 0
     have d3:=HZ2.o.at_ 1
     have f0:=HZ1.o.free 0
     have f1:=HZ1.o.free 1
     have f2:=HZ2.o.free 0
     have f3:=HZ2.o.free 1
     by_cases hlt2:k<t
     ·have hti:t-1<s.size:=by omega
      have y0:((s[t-1]'hti).toNat:Int)=(byt s (t-1):Int):=by rw[byt_eq s (t-1) hti]
      have hz:((t:Int)-1).toNat=t-1:=by omega
      by_cases h32:byt s (t-1)=32
      ·have e9:((byt s (t-1):Int)==32)=true:=beq_int_true h32
       have HN2:Hq (trm s k (s.size)=trm s k (t-1)):=hq (by rw[htr.o,trm_step hlt2 h32])
       clear h32 htr
       generalize byt s (t-1)=c0 at *
       go_wp2_with fail
       go_round
       case rel=>exact⟨t-1,by omega,by omega,int_eq (by omega),HN2⟩
       case measure=>simp[intOf];omega
      ·have e9:((byt s (t-1):Int)==32)=false:=beq_int_false h32
       have HN2:Hq (V=((k,t),none)):=hq (by rw[HS.o,HCT.o,show trm s k (s.size)=t by rw[htr.o,trm_stop hlt2 h32]];rw[if_neg (Nat.lt_irrefl _)])
       clear h32 htr
       generalize byt s (t-1)=c0 at *
       go_wp2_with fail
       go_region
       go_wp2_with fail
       refine bodyPost_ret (v:= .tuple #[.agg #[.int .i64 (k:Int),.int .i64 (t:Int)],.agg #[.int .i64 0,.int .i64 0]]) ?_ rfl ⟨by rw[HN2.o];rfl,?_⟩
       ·simp[results,Tryz.results64,go_sem,d0,d1,d2,d3]
       ·exact ((((HB4.o.setCell (by simp) _).setCell (by simp) _).setCell (by simp) _).setCell (by simp) _).drew
     ·have hta:t=k:=by omega
      have HN2:Hq (V=((k,t),none)):=hq (by rw[HS.o,HCT.o,show trm s k (s.size)=t by rw[htr.o,trm_end hlt2 ht1,hta]];rw[if_neg (Nat.lt_irrefl _)])
      clear htr hta
      go_wp2_with fail
      go_region
      go_wp2_with fail
      refine bodyPost_ret (v:= .tuple #[.agg #[.int .i64 (k:Int),.int .i64 (t:Int)],.agg #[.int .i64 0,.int .i64 0]]) ?_ rfl ⟨by rw[HN2.o];rfl,?_⟩
      ·simp[results,Tryz.results64,go_sem,d0,d1,d2,d3]
      ·exact ((((HB4.o.setCell (by simp) _).setCell (by simp) _).setCell (by simp) _).setCell (by simp) _).drew
end Go.Proofs.YtkafjblfjdpdaaaGreatDoor
