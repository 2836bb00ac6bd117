/-
  WALKS: number.split: the parts of a literal.
  PLAIN MATHEMATICS: the text of an int is a literal without fraction and exponent; its digits are the int's.
-/
import Derived.Test.YtkafjblfjdpdaaaGreatDoorNud
import Derived.Deep.DeepCutAuto
import Derived.Deep.RegionWith
import Derived.Lib.ItoaLen
namespace Go.Proofs.YtkafjblfjdpdaaaGreatDoor
open Go.RowKit
structure Parts where
 neg:Bool
 whole:Bs
 frac:Bs
 down:Bool
 power:Bs
def Parts.val(l:Parts):Value:= .agg #[.bool l.neg,.string (st l.whole),.string (st l.frac),.bool l.down,.string (st l.power)]
def splitFin(p:Parts)(d:Bool)(r:Bs):Option Parts:=if r≠ []∧r.all isDig then some {p with down:=d,power:=r} else none
def splitExp(p:Parts)(l:Bs):Option Parts:=
 if l.head?==some 45 then splitFin p true l.tail else splitFin p false (if l.head?==some 43 then l.tail else l)
def splitTail(p:Parts)(l:Bs):Option Parts:=
 match l with
 | []=>some p
 |c::r=>if c=101∨c=69 then splitExp p r else none
def splitFrac(p:Parts)(l:Bs):Option Parts:=
 match l with
 |46::r=>if r.takeWhile isDig=[] then none else splitTail {p with frac:=r.takeWhile isDig} (r.dropWhile isDig)
 |l=>splitTail p l
def splitWhole(neg:Bool)(l:Bs):Option Parts:=
 let w:=l.takeWhile isDig
 if w=[]∨(1<w.length∧w.head?=some 48) then none else splitFrac ⟨neg,w,[],false,[]⟩ (l.dropWhile isDig)
def splitM(l:Bs):Option Parts:=if l.head?==some 45 then splitWhole true l.tail else splitWhole false l
theorem prefix_one(l:Bs)(c:UInt8):Lib.hasPrefix l [c]=(l.head?==some c):=by
 cases l with
 |nil=>rfl
 |cons a l=>simp[Lib.hasPrefix,List.isPrefixOf];exact Bool.beq_comm
theorem trim_one(l:Bs)(c:UInt8):Lib.trimPrefix l [c]=if l.head?==some c then l.tail else l:=by
 unfold Lib.trimPrefix
 rw[prefix_one]
 cases l with
 |nil=>rfl
 |cons a l=>simp
theorem nd_all(l:Bs)(h:l.all isDig=true):nd l=l.length:=by
 unfold nd
 have h2:l.takeWhile isDig=l:=by
  induction l with
  |nil=>rfl
  |cons c l ih=>
   simp only[List.all_cons,Bool.and_eq_true]at h
   rw[List.takeWhile_cons,if_pos h.1,ih h.2]
 rw[h2]
theorem nd_not(l:Bs)(h:l.all isDig=false):nd l≠l.length:=by
 intro he
 have h2:l.takeWhile isDig=l:=(List.takeWhile_prefix isDig).eq_of_length he
 have h3: ∀m:Bs,m.takeWhile isDig=m→m.all isDig=true:=by
  intro m
  induction m with
  |nil=>intro _;rfl
  |cons c m ih=>
   intro hm
   rw[List.takeWhile_cons]at hm
   split at hm
   ·rename_i hc
    simp only[List.cons.injEq,true_and]at hm
    rw[List.all_cons,hc,ih hm];rfl
   ·cases hm
 rw[h3 l h2]at h;cases h
def SplitPost(R:Option Parts)(w:World)(e:Ending)(w':World):Prop:=
 (∃v,e= .returned v∧((∃p,R=some p∧v= .tuple #[p.val,.bool true])∨(R=none∧ ∃p:Parts,v= .tuple #[p.val,.bool false])))∧Below w.heap.size w w'
theorem SplitPost.no {R:Option Parts} {w w':World} {x:Value} (p:Parts)(h:R=none)(hx:x=p.val)(hb:Below w.heap.size w w'):SplitPost R w (.returned (.tuple #[x,.bool false])) w':=⟨⟨_,rfl,.inr ⟨h,p,by rw[hx]⟩⟩,hb⟩
theorem SplitPost.yes {R:Option Parts} {w w':World} {p:Parts} {x:Value} (h:R=some p)(hx:x=p.val)(hb:Below w.heap.size w w'):SplitPost R w (.returned (.tuple #[x,.bool true])) w':=⟨⟨_,rfl,.inl ⟨p,h,by rw[hx]⟩⟩,hb⟩
theorem five_cells {w:World} {g:Nat} {t:TypeId} {a b c d e:Value} (h:Whole w g t #[a,b,c,d,e]):
 w.cell? ⟨g,0,none⟩=some a∧w.cell? ⟨g,1,none⟩=some b∧w.cell? ⟨g,2,none⟩=some c∧w.cell? ⟨g,3,none⟩=some d∧w.cell? ⟨g,4,none⟩=some e:=
 ⟨h.at_ 0,h.at_ 1,h.at_ 2,h.at_ 3,h.at_ 4⟩
theorem set_five {B:Nat} {w W:World} (h:Below B w W) {g:Nat} (hg:B≤g)(a b c d e:Value):
 Below B w (((((W.setCell ⟨g,0,none⟩ a).setCell ⟨g,1,none⟩ b).setCell ⟨g,2,none⟩ c).setCell ⟨g,3,none⟩ d).setCell ⟨g,4,none⟩ e):=
 ((((h.setCell (p:=⟨g,0,none⟩) hg a).setCell (p:=⟨g,1,none⟩) hg b).setCell (p:=⟨g,2,none⟩) hg c).setCell (p:=⟨g,3,none⟩) hg d).setCell (p:=⟨g,4,none⟩) hg e
theorem cut_left(l:Bs)(k:Nat):(st l).extract 0 k=st (l.take k):=by rw[extract_st,st_list];simp
theorem cut_right(l:Bs)(k:Nat):(st l).extract k l.length=st (l.drop k):=by
 rw[extract_st,st_list]
 congr 2
 rw[List.take_of_length_le]
 rw[List.length_drop];omega
theorem splitTail_cons(p:Parts)(c:UInt8)(r:Bs):splitTail p (c::r)=if c.toNat=101∨c.toNat=69 then splitExp p r else none:=by
 have h1:(c=101∨c=69)↔(c.toNat=101∨c.toNat=69):=by
  constructor
  ·rintro (rfl|rfl)<;>simp
  ·rintro (h|h)
   ·exact .inl (UInt8.toNat_inj.1 h)
   ·exact .inr (UInt8.toNat_inj.1 h)
 show(if c=101∨c=69 then splitExp p r else none)=_
 by_cases h:c=101∨c=69
 ·rw[if_pos h,if_pos (h1.1 h)]
 ·rw[if_neg h,if_neg (fun x=>h (h1.2 x))]
theorem five_free {w:World} {g:Nat} {t:TypeId} {cs:Array Value} (h:Whole w g t cs):
 w.frozen? ⟨g,0,none⟩=false∧w.frozen? ⟨g,1,none⟩=false∧w.frozen? ⟨g,2,none⟩=false∧w.frozen? ⟨g,3,none⟩=false∧w.frozen? ⟨g,4,none⟩=false:=
 ⟨h.free 0,h.free 1,h.free 2,h.free 3,h.free 4⟩
set_option maxHeartbeats 4000000 in
set_option maxRecDepth 1000000 in
theorem split_any(s:ByteArray)(w:World)(hs:s.size≤maxLen):
 Calls Tryz.prog 80 #[.string s] w (SplitPost (splitM s.data.toList) w):=by
 have HS:=hq hs
 generalize hR0:splitM s.data.toList=R
 have HR0:=hq hR0
 clear hR0
 unfold maxLen at hs
 go_enter Tryz.func80,Tryz.ntmps80
 go_wp2_with fail
 refine(Tryz.strings_CutPrefix s ⟨#[45]⟩ _).mono ?_
 rintro e w1 ⟨rfl,hw1⟩
 obtain rfl:=hw1.symm
 rw[show (⟨#[45]⟩:ByteArray).data.toList=[45] from rfl,prefix_one,trim_one]
 have hM:splitM s.data.toList=splitWhole (s.data.toList.head?==some 45) (if s.data.toList.head?==some 45 then s.data.toList.tail else s.data.toList):=by
  unfold splitM;split<;>rename_i h<;>simp[h]
 have hlen:(if s.data.toList.head?==some 45 then s.data.toList.tail else s.data.toList).length≤s.size:=by
  split
  ·rw[List.length_tail];show _-1≤s.data.toList.length;omega
  ·exact Nat.le_refl _
 generalize (if s.data.toList.head?==some 45 then s.data.toList.tail else s.data.toList)=l at *
 generalize (s.data.toList.head?==some 45)=neg at *
 have HM:=hq (HR0.o.symm.trans hM)
 clear hM HR0
 go_upto_region 3 with fail
 have hW:=Whole.made (w.alloc (.cells #[.bool false,.string (st []),.string (st []),.bool false,.string (st [])] 86)) 86 #[.bool neg,.string (st []),.string (st []),.bool false,.string (st [])]
 have hW0:=(Whole.made w 86 #[.bool false,.string (st []),.string (st []),.bool false,.string (st [])]).alloc (.cells #[.bool neg,.string (st []),.string (st []),.bool false,.string (st [])] 86)
 rw[World.size_alloc]at hW
 have hbel:Below w.heap.size w ((w.alloc (.cells #[.bool false,.string (st []),.string (st []),.bool false,.string (st [])] 86)).alloc (.cells #[.bool neg,.string (st []),.string (st []),.bool false,.string (st [])] 86)):=(below_alloc w _).alloc (by rw[World.size_alloc];omega) _
 generalize ((w.alloc (.cells #[.bool false,.string (st []),.string (st []),.bool false,.string (st [])] 86)).alloc (.cells #[.bool neg,.string (st []),.string (st []),.bool false,.string (st [])] 86))=W at *
 go_cut [0] (fun s0 wx=>s0= .string (st (l.drop (nd l)))∧Below w.heap.size w wx∧Whole wx w.heap.size 86 #[.bool false,.string (st []),.string (st []),.bool false,.string (st [])]∧Whole wx (w.heap.size+1) 86 #[.bool neg,.string (st (l.take (nd l))),.string (st []),.bool false,.string (st [])])
 case first=>
  have hz:(st l).size≤maxLen:=by rw[st_size];unfold maxLen;omega
  have HZ:=hq hz
  have hndl:=nd_le l
  clear hz
  have hsz:=hW.lt
  obtain⟨c0,c1,c2,c3,c4⟩:=five_cells hW
  have f1:=hW.free 1
  have hbel2:=hbel.drew
  go_region_with (go_at_call 124;refine(digits_any _ _ HZ.o).mono ?_;rw[st_list];rintro e w1 ⟨rfl,hb1⟩;have hW1:Whole w1 (w.heap.size+1) 86 #[.bool neg,.string (st []),.string (st []),.bool false,.string (st [])]:=Whole.grow (by assumption) hb1;obtain⟨_,q1,_,_,_⟩:=five_cells hW1;have q2:=hW1.free 1;have hbx:Below w.heap.size w w1:=below_trans (by assumption) hb1;have hR1:Whole w1 w.heap.size 86 #[.bool false,.string (st []),.string (st []),.bool false,.string (st [])]:=Whole.grow (by assumption) hb1)
  all_goals (go_wp2_with fail;go_meet)
  all_goals (rw[cut_left,cut_right];exact⟨rfl,hbx.setCell (by simp) _,hR1.far (by simp) _,hW1.put 1 _⟩)
 case rest=>
  obtain⟨rfl,hbc,hc0,hc1⟩:=hcut
  obtain⟨k0,k1,k2,k3,k4⟩:=five_cells hc1
  obtain⟨r0,r1,r2,r3,r4⟩:=five_cells hc0
  obtain⟨p0,p1,p2,p3,p4⟩:=five_free hc0
  have hndl:=nd_le l
  have hR:R=if l.take (nd l)=[]∨(1<(l.take (nd l)).length∧(l.take (nd l)).head?=some 48) then none else splitFrac ⟨neg,l.take (nd l),[],false,[]⟩ (l.drop (nd l)):=by
   rw[HM.o,take_nd,drop_nd];rfl
  have htl:(l.take (nd l)).length≤s.size:=by rw[List.length_take];omega
  have hdl:(l.drop (nd l)).length≤s.size:=by rw[List.length_drop];omega
  generalize l.take (nd l)=A at *
  generalize l.drop (nd l)=D at *
  have HR:=hq hR
  clear hR HM
  go_upto_region 4 with fail
  go_cut [38] (fun c wx=>c= .bool (decide (A=[]∨(1<A.length∧A.head?=some 48)))∧wx=wc)
  case first=>
   by_cases hA:A=[]
   ·have e1:A.isEmpty=true:=by rw[hA];rfl
    go_wp2_with fail
    go_meet
    exact⟨by rw[hA];rfl,rfl⟩
   ·have e1:A.isEmpty=false:=by cases A with|nil=>exact absurd rfl hA|cons _ _=>rfl
    have hAp:0<A.length:=List.length_pos_iff.2 hA
    by_cases hl1:1<A.length
    ·have hh:A.head?=some 48↔((st A)[0]'(by rw[st_size];omega)).toNat=48:=by
      cases A with
      |nil=>simp at hAp
      |cons c r=>
       constructor
       ·intro h;simp at h;subst h;rfl
       ·intro h
        have h2:c.toNat=48:=h
        have:c=48:=UInt8.toNat_inj.1 h2
        rw[this];rfl
     have HH:=hq hh
     clear hh
     by_cases h8:((st A)[0]'(by rw[st_size];omega)).toNat=48
     ·have e2:((((st A)[0]'(by rw[st_size];omega)).toNat:Int)==48)=true:=by rw[h8];rfl
      have HB:=hq (HH.o.2 h8)
      clear h8
      go_wp2_with fail
      go_meet
      exact⟨congrArg Value.bool (decide_eq_true (.inr ⟨hl1,HB.o⟩)).symm,rfl⟩
     ·have e2:((((st A)[0]'(by rw[st_size];omega)).toNat:Int)==48)=false:=beq_eq_false_iff_ne.2 (by omega)
      have HB:=hq (fun h=>h8 (HH.o.1 h))
      clear h8
      go_wp2_with fail
      go_meet
      exact⟨congrArg Value.bool (decide_eq_false (fun h=>h.elim hA (fun x=>HB.o x.2))).symm,rfl⟩
    ·go_wp2_with fail
     go_meet
     exact⟨congrArg Value.bool (decide_eq_false (fun h=>h.elim hA (fun x=>hl1 x.1))).symm,rfl⟩
  case rest=>
   obtain⟨rfl,rfl⟩:=hcut
   by_cases hbad:A=[]∨(1<A.length∧A.head?=some 48)
   ·have HN:Hq (R=none):=hq (by rw[HR.o,if_pos hbad])
    have hdc:decide (A=[]∨(1<A.length∧A.head?=some 48))=true:=decide_eq_true hbad
    rw[hdc]
    clear HR hbad hdc
    go_wp2_with fail
    refine bodyPost_ret (v:= .tuple #[.agg #[.bool false,.string (st []),.string (st []),.bool false,.string (st [])],.bool false]) ?_ rfl ?_
    ·simp[results,Tryz.results80,go_sem,r0,r1,r2,r3,r4]
    ·exact SplitPost.no ⟨false,[],[],false,[]⟩ HN.o rfl (set_five hbc (Nat.le_refl _) _ _ _ _ _)
   ·have HR2:=hq (HR.o.trans (if_neg hbad))
    have hdc:decide (A=[]∨(1<A.length∧A.head?=some 48))=false:=decide_eq_false hbad
    rw[hdc]
    clear HR hbad hdc
    go_wp2_with fail
    refine(Tryz.strings_CutPrefix (st D) ⟨#[46]⟩ _).mono ?_
    rintro e w1 ⟨rfl,hw1⟩
    obtain rfl:=hw1.symm
    rw[show (⟨#[46]⟩:ByteArray).data.toList=[46] from rfl,prefix_one,trim_one,st_list]
    generalize hdn:(D.head?==some 46)=dn
    generalize hrs:(if dn then D.tail else D)=rs
    have HDN:=hq hdn
    have HRS:=hq hrs
    clear hdn hrs
    go_upto_if 45 with fail
    go_cut [0] (fun s0 wx=> ∃F D2:Bs,s0= .string (st D2)∧Hq (R=splitTail ⟨neg,A,F,false,[]⟩ D2)∧D2.length≤s.size∧Below w.heap.size w wx∧Whole wx w.heap.size 86 #[.bool false,.string (st []),.string (st []),.bool false,.string (st [])]∧Whole wx (w.heap.size+1) 86 #[.bool neg,.string (st A),.string (st F),.bool false,.string (st [])])
    case first=>
     cases dn with
     |false=>
      have hr0:rs=D:=by rw[←HRS.o];rfl
      go_wp2_with fail
      go_meet
      refine⟨[],D,rfl,hq ?_,hdl,hbc,hc0,hc1⟩
      rw[HR2.o]
      have hh:=HDN.o
      clear HR2 HRS hr0
      match D with
      | []=>rfl
      |c::r=>
       by_cases hc:c=46
       ·subst hc;simp at hh
       ·unfold splitFrac
        split
        ·rename_i h;injection h with h1 _;exact absurd h1 hc
        ·rfl
     |true=>
      obtain⟨r,rfl⟩: ∃r,D=46::r:=by
       have hd:=HDN.o
       cases D with
       |nil=>simp at hd
       |cons c r=>simp at hd;exact⟨r,by rw[hd]⟩
      have hr0:rs=r:=by rw[←HRS.o];rfl
      subst hr0
      have HR3:Hq (R=if rs.take (nd rs)=[] then none else splitTail ⟨neg,A,rs.take (nd rs),false,[]⟩ (rs.drop (nd rs))):=hq (by rw[HR2.o,take_nd,drop_nd];rfl)
      clear HR2 HRS HDN
      have hrl:rs.length≤s.size:=by simp at hdl;omega
      go_upto_region 8 with fail
      go_cut [0] (fun s0 wx=>s0= .string (st (rs.drop (nd rs)))∧Below w.heap.size w wx∧Whole wx w.heap.size 86 #[.bool false,.string (st []),.string (st []),.bool false,.string (st [])]∧Whole wx (w.heap.size+1) 86 #[.bool neg,.string (st A),.string (st (rs.take (nd rs))),.bool false,.string (st [])])
      case first=>
       have HZ:Hq ((st rs).size≤maxLen):=hq (by rw[st_size];unfold maxLen;omega)
       have hndr:=nd_le rs
       have f2:=hc1.free 2
       have hbel2:=hbc.drew
       go_region_with (go_at_call 124;refine(digits_any _ _ HZ.o).mono ?_;rw[st_list];rintro e w1 ⟨rfl,hb1⟩;have hW1:Whole w1 (w.heap.size+1) 86 #[.bool neg,.string (st A),.string (st []),.bool false,.string (st [])]:=Whole.grow (by assumption) hb1;obtain⟨_,_,q1,_,_⟩:=five_cells hW1;have q2:=hW1.free 2;have hbx:Below w.heap.size w w1:=below_trans (by assumption) hb1;have hR1:Whole w1 w.heap.size 86 #[.bool false,.string (st []),.string (st []),.bool false,.string (st [])]:=Whole.grow (by assumption) hb1)
       all_goals (go_wp2_with fail;go_meet)
       all_goals (rw[cut_left,cut_right];exact⟨rfl,hbx.setCell (by simp) _,hR1.far (by simp) _,hW1.put 2 _⟩)
      case rest=>
       clear k0 k1 k2 k3 k4 r0 r1 r2 r3 r4 p0 p1 p2 p3 p4 hbc hc0 hc1
       obtain⟨rfl,hbc,hc0,hc1⟩:=hcut
       obtain⟨k0,k1,k2,k3,k4⟩:=five_cells hc1
       obtain⟨r0,r1,r2,r3,r4⟩:=five_cells hc0
       obtain⟨p0,p1,p2,p3,p4⟩:=five_free hc0
       have hdl2:(rs.drop (nd rs)).length≤s.size:=by rw[List.length_drop];omega
       have hfl:(rs.take (nd rs)).length≤s.size:=by rw[List.length_take];omega
       generalize rs.take (nd rs)=F at *
       generalize rs.drop (nd rs)=D2 at *
       by_cases hF:F=[]
       ·have HN:Hq (R=none):=hq (by rw[HR3.o,if_pos hF])
        clear HR3
        have e3:F.isEmpty=true:=by rw[hF];rfl
        go_wp2_with fail
        refine bodyPost_ret (v:= .tuple #[.agg #[.bool false,.string (st []),.string (st []),.bool false,.string (st [])],.bool false]) ?_ rfl ?_
        ·simp[results,Tryz.results80,go_sem,r0,r1,r2,r3,r4]
        ·exact SplitPost.no ⟨false,[],[],false,[]⟩ HN.o rfl (set_five hbc (Nat.le_refl _) _ _ _ _ _)
       ·have HR4:=hq (HR3.o.trans (if_neg hF))
        clear HR3
        have e3:F.isEmpty=false:=by cases F with|nil=>exact absurd rfl hF|cons _ _=>rfl
        clear hF
        go_wp2_with fail
        go_meet
        exact⟨F,D2,rfl,HR4,hdl2,hbc,hc0,hc1⟩
    case rest=>
     clear k0 k1 k2 k3 k4 r0 r1 r2 r3 r4 p0 p1 p2 p3 p4 hbc hc0 hc1
     obtain⟨F,D2,rfl,HR4,hdl2,hbc,hc0,hc1⟩:=hcut
     obtain⟨k0,k1,k2,k3,k4⟩:=five_cells hc1
     obtain⟨r0,r1,r2,r3,r4⟩:=five_cells hc0
     obtain⟨p0,p1,p2,p3,p4⟩:=five_free hc0
     by_cases hD:D2=[]
     ·have HY:Hq (R=some ⟨neg,A,F,false,[]⟩):=hq (by rw[HR4.o,hD];rfl)
      have e4:D2.isEmpty=true:=by rw[hD];rfl
      clear HR4 hD
      go_wp2_with fail
      refine bodyPost_ret (v:= .tuple #[.agg #[.bool neg,.string (st A),.string (st F),.bool false,.string (st [])],.bool true]) ?_ rfl ?_
      ·simp[results,Tryz.results80,go_sem,r0,r1,r2,r3,r4]
      ·exact SplitPost.yes HY.o rfl (set_five hbc (Nat.le_refl _) _ _ _ _ _)
     ·have e4:D2.isEmpty=false:=by cases D2 with|nil=>exact absurd rfl hD|cons _ _=>rfl
      have hDp:0<D2.length:=List.length_pos_iff.2 hD
      have hz0:0<(st D2).size:=by rw[st_size];exact hDp
      have HR5:Hq (R=if (st D2)[0].toNat=101∨(st D2)[0].toNat=69 then splitExp ⟨neg,A,F,false,[]⟩ (D2.drop 1) else none):=hq (by
       rw[HR4.o]
       cases D2 with
       |nil=>exact absurd rfl hD
       |cons c r=>exact splitTail_cons _ c r)
      clear HR4 hD
      generalize hT0:(st D2)[0].toNat=n0 at HR5
      have hT0z:(((st D2)[0]).toNat:Int)=(n0:Int):=by rw[hT0]
      clear hT0
      go_upto_region 13 with fail
      go_cut [69] (fun c wx=>c= .bool (decide (¬(n0=101∨n0=69)))∧wx=wc)
      case first=>
       by_cases h1:n0=101
       ·have e5:((n0:Int) !=101)=false:=by subst h1;rfl
        have hh:Hq (decide (¬(n0=101∨n0=69))=false):=hq (decide_eq_false (fun h=>h (.inl h1)))
        clear h1
        go_wp2_with fail
        go_meet
        exact⟨congrArg Value.bool hh.o.symm,rfl⟩
       ·have e5:((n0:Int) !=101)=true:=by rw[bne_iff_ne];omega
        by_cases h2:n0=69
        ·have e6:((n0:Int) !=69)=false:=by subst h2;rfl
         have hh:Hq (decide (¬(n0=101∨n0=69))=false):=hq (decide_eq_false (fun h=>h (.inr h2)))
         clear h1 h2
         go_wp2_with fail
         go_meet
         exact⟨congrArg Value.bool hh.o.symm,rfl⟩
        ·have e6:((n0:Int) !=69)=true:=by rw[bne_iff_ne];omega
         have hh:Hq (decide (¬(n0=101∨n0=69))=true):=hq (decide_eq_true (fun h=>h.elim h1 h2))
         clear h1 h2
         go_wp2_with fail
         go_meet
         exact⟨congrArg Value.bool hh.o.symm,rfl⟩
      case rest=>
       obtain⟨rfl,rfl⟩:=hcut
       by_cases hE:n0=101∨n0=69
       ·have HR6:=hq (HR5.o.trans (if_pos hE))
        have hdc:decide (¬(n0=101∨n0=69))=false:=decide_eq_false (fun h=>h hE)
        rw[hdc]
        clear HR5 hE hdc
        have hd1:(D2.drop 1).length≤s.size:=by rw[List.length_drop];omega
        go_wp2_with fail
        refine(Tryz.strings_CutPrefix _ ⟨#[45]⟩ _).mono ?_
        rintro e w1 ⟨rfl,hw1⟩
        obtain rfl:=hw1.symm
        rw[show (⟨#[45]⟩:ByteArray).data.toList=[45] from rfl,cut_right,prefix_one,trim_one,st_list]
        generalize hE:D2.drop 1=E at *
        clear hE
        have hEt:E.tail.length≤s.size:=by rw[List.length_tail];omega
        generalize hdn:(E.head?==some 45)=dn
        generalize hrs:(if dn then E.tail else E)=rs
        have HDN:=hq hdn
        have HRS:=hq hrs
        clear hdn hrs
        go_upto_if 78 with fail
        go_cut [0] (fun s0 wx=> ∃(T:Bs) (db:Bool),s0= .string (st T)∧Hq (R=splitFin ⟨neg,A,F,false,[]⟩ db T)∧T.length≤s.size∧Below w.heap.size w wx∧Whole wx w.heap.size 86 #[.bool false,.string (st []),.string (st []),.bool false,.string (st [])]∧Whole wx (w.heap.size+1) 86 #[.bool neg,.string (st A),.string (st F),.bool db,.string (st [])])
        case first=>
         cases dn with
         |true=>
          have hr0:rs=E.tail:=by rw[←HRS.o];rfl
          subst hr0
          have HR7:Hq (R=splitFin ⟨neg,A,F,false,[]⟩ true E.tail):=hq (by rw[HR6.o];unfold splitExp;rw[HDN.o,if_pos rfl])
          clear HR6 HDN HRS
          have q3:=hc1.free 3
          go_wp2_with fail
          go_meet
          exact⟨E.tail,true,rfl,HR7,hEt,hbc.setCell (by simp) _,hc0.far (by simp) _,hc1.put 3 _⟩
         |false=>
          have HR7:Hq (R=splitFin ⟨neg,A,F,false,[]⟩ false (if E.head?==some 43 then E.tail else E)):=hq (by rw[HR6.o];unfold splitExp;rw[HDN.o,if_neg (by decide)])
          clear HR6 HDN HRS
          have hEz:(if E.head?==some 43 then E.tail else E).length≤s.size:=by
           split
           ·exact hEt
           ·exact hd1
          go_wp2_with fail
          refine(Tryz.strings_TrimPrefix (st E) ⟨#[43]⟩ _).mono ?_
          rintro e w1 ⟨rfl,hw1⟩
          obtain rfl:=hw1.symm
          rw[show (⟨#[43]⟩:ByteArray).data.toList=[43] from rfl,trim_one,st_list]
          generalize (if E.head?==some 43 then E.tail else E)=T at *
          go_wp2_with fail
          go_meet
          exact⟨T,false,rfl,HR7,hEz,hbc,hc0,hc1⟩
        case rest=>
         clear k0 k1 k2 k3 k4 r0 r1 r2 r3 r4 p0 p1 p2 p3 p4 hbc hc0 hc1
         obtain⟨T,db,rfl,HR7,hTl,hbc,hc0,hc1⟩:=hcut
         have k4:=hc1.at_ 4
         have q4:=hc1.free 4
         have k4:wc.cell? ⟨w.heap.size+1,4,none⟩=some (.string (st [])):=k4
         go_upto_region 21 with fail
         have hd1c:=hc1.put 4 (.string (st T))
         have hd0c:=hc0.far (p:=⟨w.heap.size+1,4,none⟩) (by simp) (.string (st T))
         have hbd:=hbc.setCell (p:=⟨w.heap.size+1,4,none⟩) (by simp) (.string (st T))
         clear k4 q4
         generalize (wc.setCell ⟨w.heap.size+1,4,none⟩ (.string (st T)))=W2 at *
         have hd1c:Whole W2 (w.heap.size+1) 86 #[.bool neg,.string (st A),.string (st F),.bool db,.string (st T)]:=hd1c
         obtain⟨k0,k1,k2,k3,k4⟩:=five_cells hd1c
         obtain⟨r0,r1,r2,r3,r4⟩:=five_cells hd0c
         obtain⟨p0,p1,p2,p3,p4⟩:=five_free hd0c
         have hbel2:=hbd.drew
         by_cases hT:T=[]
         ·have HN:Hq (R=none):=hq (by rw[HR7.o];unfold splitFin;rw[if_neg (fun h=>h.1 hT)])
          clear HR7
          subst hT
          go_region
          all_goals go_wp2_with fail
          all_goals refine bodyPost_ret (v:= .tuple #[.agg #[.bool neg,.string (st A),.string (st F),.bool db,.string (st [])],.bool false]) ?_ rfl ?_
          all_goals first
           |exact SplitPost.no ⟨neg,A,F,db,[]⟩ HN.o rfl (set_five hbd (Nat.le_refl _) _ _ _ _ _).drew
           |simp[results,Tryz.results80,go_sem,r0,r1,r2,r3,r4]
         ·obtain ⟨c,T',rfl⟩: ∃c T',T=c::T':=by
           cases T with
           |nil=>exact absurd rfl hT
           |cons c r=>exact⟨c,r,rfl⟩
          have HZ:Hq ((st (c::T')).size≤maxLen):=hq (by rw[st_size];unfold maxLen;omega)
          clear hT
          generalize hnd:nd (c::T')=nn
          by_cases hall:nn=T'.length+1
          ·have HY:Hq (R=some ⟨neg,A,F,db,c::T'⟩):=hq (by
            rw[HR7.o];unfold splitFin;rw[if_pos]
            refine⟨by simp,?_⟩
            cases hx:(c::T').all isDig with
            |true=>rfl
            |false=>exact absurd (hnd.trans hall) (nd_not _ hx))
           subst hall
           have HND:=hq hnd
           clear HR7 hnd
           go_region_with (go_at_call 124;refine(digits_any _ _ HZ.o).mono ?_;rw[st_list,HND.o];rintro e w1 ⟨rfl,hb1⟩;have hW1:Whole w1 (w.heap.size+1) 86 #[.bool neg,.string (st A),.string (st F),.bool db,.string (st (c::T'))]:=Whole.grow (by assumption) hb1;obtain⟨k0,k1,k2,k3,k4⟩:=five_cells hW1;have hbx:Below w.heap.size w w1:=below_trans (by assumption) hb1;have hR1:Whole w1 w.heap.size 86 #[.bool false,.string (st []),.string (st []),.bool false,.string (st [])]:=Whole.grow (by assumption) hb1;obtain⟨r0,r1,r2,r3,r4⟩:=five_cells hR1;obtain⟨p0,p1,p2,p3,p4⟩:=five_free hR1)
           all_goals go_wp2_with fail
           all_goals refine bodyPost_ret (v:= .tuple #[.agg #[.bool neg,.string (st A),.string (st F),.bool db,.string (st (c::T'))],.bool true]) ?_ rfl ?_
           all_goals first
            |exact SplitPost.yes HY.o rfl (set_five hbx (Nat.le_refl _) _ _ _ _ _)
            |simp[results,Tryz.results80,go_sem,r0,r1,r2,r3,r4]
          ·have HN:Hq (R=none):=hq (by
            rw[HR7.o];unfold splitFin;rw[if_neg]
            intro h
            exact hall (hnd.symm.trans (nd_all _ h.2)))
           have eqf:(((nn:Nat):Int)==((T'.length:Nat):Int)+1)=false:=beq_eq_false_iff_ne.2 (by omega)
           have HND:=hq hnd
           clear HR7 hnd
           go_region_with (go_at_call 124;refine(digits_any _ _ HZ.o).mono ?_;rw[st_list,HND.o];rintro e w1 ⟨rfl,hb1⟩;have hW1:Whole w1 (w.heap.size+1) 86 #[.bool neg,.string (st A),.string (st F),.bool db,.string (st (c::T'))]:=Whole.grow (by assumption) hb1;obtain⟨k0,k1,k2,k3,k4⟩:=five_cells hW1;have hbx:Below w.heap.size w w1:=below_trans (by assumption) hb1;have hR1:Whole w1 w.heap.size 86 #[.bool false,.string (st []),.string (st []),.bool false,.string (st [])]:=Whole.grow (by assumption) hb1;obtain⟨r0,r1,r2,r3,r4⟩:=five_cells hR1;obtain⟨p0,p1,p2,p3,p4⟩:=five_free hR1)
           all_goals go_wp2_with fail
           all_goals refine bodyPost_ret (v:= .tuple #[.agg #[.bool neg,.string (st A),.string (st F),.bool db,.string (st (c::T'))],.bool false]) ?_ rfl ?_
           all_goals first
            |exact SplitPost.no ⟨neg,A,F,db,c::T'⟩ HN.o rfl (set_five hbx (Nat.le_refl _) _ _ _ _ _)
            |simp[results,Tryz.results80,go_sem,r0,r1,r2,r3,r4]
       ·have HN:Hq (R=none):=hq (HR5.o.trans (if_neg hE))
        have hdc:decide (¬(n0=101∨n0=69))=true:=decide_eq_true hE
        rw[hdc]
        clear HR5 hE hdc
        go_wp2_with fail
        refine bodyPost_ret (v:= .tuple #[.agg #[.bool false,.string (st []),.string (st []),.bool false,.string (st [])],.bool false]) ?_ rfl ?_
        ·simp[results,Tryz.results80,go_sem,r0,r1,r2,r3,r4]
        ·exact SplitPost.no ⟨false,[],[],false,[]⟩ HN.o rfl (set_five hbc (Nat.le_refl _) _ _ _ _ _)
theorem dec_small {u:Nat} (h:u<10):Lib.decDigits u=[UInt8.ofNat (48+u)]:=by rw[Lib.decDigits,dif_pos h]
theorem dec_great {u:Nat} (h: ¬u<10):Lib.decDigits u=Lib.decDigits (u/10)++[UInt8.ofNat (48+u%10)]:=by rw[Lib.decDigits,dif_neg h]
theorem of_nat_dig {k:Nat} (h:k<10):(UInt8.ofNat (48+k)).toNat=48+k:=by
 rw[UInt8.toNat_ofNat'];omega
theorem dig_of_nat {k:Nat} (h:k<10):isDig (UInt8.ofNat (48+k))=true:=by
 unfold isDig;rw[of_nat_dig h];simp;omega
theorem dec_all(u:Nat):(Lib.decDigits u).all isDig=true:=by
 induction u using Nat.strongRecOn with
 |ind u ih=>
  by_cases h:u<10
  ·rw[dec_small h,List.all_cons,dig_of_nat h];rfl
  ·rw[dec_great h,List.all_append,ih (u/10) (by omega),List.all_cons,dig_of_nat (Nat.mod_lt u (by omega:0<10))];rfl
theorem dec_ne(u:Nat):Lib.decDigits u≠ []:=by
 by_cases h:u<10
 ·rw[dec_small h];simp
 ·rw[dec_great h];simp
theorem dec_head(u:Nat)(hu:0<u):(Lib.decDigits u).head?≠some 48:=by
 induction u using Nat.strongRecOn with
 |ind u ih=>
  by_cases h:u<10
  ·rw[dec_small h]
   intro hh
   have:=congrArg UInt8.toNat (Option.some.inj hh)
   rw[of_nat_dig h]at this
   simp at this;omega
  ·have hi:=ih (u/10) (by omega) (by omega)
   rw[dec_great h]
   cases he:Lib.decDigits (u/10) with
   |nil=>exact absurd he (dec_ne _)
   |cons c l=>rw[he]at hi;exact hi
theorem takeWhile_eq {l:Bs} (h:l.all isDig=true):l.takeWhile isDig=l∧l.dropWhile isDig=[]:=by
 induction l with
 |nil=>exact⟨rfl,rfl⟩
 |cons c l ih=>
  rw[List.all_cons,Bool.and_eq_true]at h
  obtain⟨h1,h2⟩:=ih h.2
  exact⟨by rw[List.takeWhile_cons,if_pos h.1,h1],by rw[List.dropWhile_cons,if_pos h.1,h2]⟩
theorem splitWhole_dec(neg:Bool)(u:Nat):splitWhole neg (Lib.decDigits u)=some ⟨neg,Lib.decDigits u,[],false,[]⟩:=by
 obtain⟨h1,h2⟩:=takeWhile_eq (dec_all u)
 unfold splitWhole
 simp only[h1,h2]
 rw[if_neg]
 ·rfl
 ·rintro (h|⟨h,hh⟩)
  ·exact dec_ne u h
  ·by_cases h0:u=0
   ·subst h0;rw[dec_small (by omega)]at h;simp at h
   ·exact dec_head u (by omega) hh
theorem head_not(u:Nat):((Lib.decDigits u).head?==some 45)=false:=by
 have hd:=dec_all u
 cases he:Lib.decDigits u with
 |nil=>rfl
 |cons c l=>
  rw[he,List.all_cons,Bool.and_eq_true]at hd
  have:=dig_bd hd.1
  rw[List.head?_cons]
  refine beq_eq_false_iff_ne.2 (fun h=> ?_)
  have:=congrArg UInt8.toNat (Option.some.inj h)
  simp at this;omega
theorem splitM_itoa(n:Int):splitM (Lib.itoa n)=some ⟨decide (n<0),Lib.decDigits n.natAbs,[],false,[]⟩:=by
 unfold Lib.itoa splitM
 by_cases h:n<0
 ·rw[if_pos h,if_pos (by rfl),List.tail_cons,splitWhole_dec,decide_eq_true h]
 ·rw[if_neg h,if_neg (by rw[head_not];simp),splitWhole_dec,decide_eq_false h,show n.natAbs=n.toNat by omega]
theorem stripR_snoc(l:Bs)(c:UInt8):stripR (l++[c])=if c=48 then stripR l else l++[c]:=by
 unfold stripR Lib.trimRightB
 rw[List.reverse_append,List.reverse_singleton,List.singleton_append,List.dropWhile_cons]
 by_cases h:c=48
 ·rw[if_pos (by simp[h]),if_pos h]
 ·rw[if_neg (by simp[h]),if_neg h];simp
theorem stripR_facts: ∀r:Bs,numOf r.reverse=numOf (stripR r.reverse)*10^(r.length-(stripR r.reverse).length)∧(stripR r.reverse).length≤r.length∧(stripR r.reverse).getLast?≠some 48∧ ∃t,r.reverse=stripR r.reverse++t
 | []=>⟨by simp[numOf,stripR,Lib.trimRightB],by simp[stripR,Lib.trimRightB],by simp[stripR,Lib.trimRightB],[],by simp[stripR,Lib.trimRightB]⟩
 |c::r=>by
  obtain⟨h1,h2,h3,t,h4⟩:=stripR_facts r
  rw[List.reverse_cons,stripR_snoc]
  by_cases h:c=48
  ·rw[if_pos h]
   refine⟨?_,by rw[List.length_cons];omega,h3,t++[c],by rw[←List.append_assoc,←h4]⟩
   rw[numOf_snoc,h1,List.length_cons,show r.length+1-(stripR r.reverse).length=r.length-(stripR r.reverse).length+1 by omega,Int.pow_succ,h]
   have e:((48:UInt8).toNat:Int)-48=0:=by decide
   rw[e]
   generalize (10:Int)^(r.length-(stripR r.reverse).length)=T
   generalize numOf (stripR r.reverse)=Q
   grind
  ·rw[if_neg h]
   refine⟨by simp,by simp,?_,[],by simp⟩
   rw[List.getLast?_concat]
   exact fun hh=>h (Option.some.inj hh)
theorem stripR_last(l:Bs):(stripR l).getLast?≠some 48:=by
 have:=(stripR_facts l.reverse).2.2.1
 rwa [List.reverse_reverse]at this
theorem stripR_pre(l:Bs): ∃t,l=stripR l++t:=by
 have:=(stripR_facts l.reverse).2.2.2
 rwa [List.reverse_reverse]at this
end Go.Proofs.YtkafjblfjdpdaaaGreatDoor
