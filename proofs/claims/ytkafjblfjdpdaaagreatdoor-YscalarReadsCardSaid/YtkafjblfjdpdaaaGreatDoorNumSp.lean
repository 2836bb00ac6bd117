/-
  WALKS: number.split: the parts of a literal.
  PLAIN MATHEMATICS: the text of an int is a literal without fraction and exponent; its digits are the int's.
-/
import Derived.Test.YtkafjblfjdpdaaaGreatDoorNud
set_option maxHeartbeats 4000000
set_option maxRecDepth 1000000
namespace Go.Proofs.YtkafjblfjdpdaaaGreatDoor
open Go.RowKit
structure Parts where
 neg:Bool
 whole:Bs
 frac:Bs
 down:Bool
 power:Bs
def Parts.val(l:Parts):Value:= .agg #[.bool l.neg,.string (st l.whole),.string (st l.frac),.bool l.down,.string (st l.power)]
def zg8(p:Parts)(d:Bool)(r:Bs):Option Parts:=if r≠ []/\r.all za7 then some {p with down:=d,power:=r} else none
def zg9(p:Parts)(l:Bs):Option Parts:=
 if l.head?==some 45 then zg8 p true l.tail else zg8 p false (if l.head?==some 43 then l.tail else l)
def zf0(p:Parts)(l:Bs):Option Parts:=
 match l with
 | []=>some p
 |c::r=>if c=101\/c=69 then zg9 p r else none
def zl(p:Parts)(l:Bs):Option Parts:=
 match l with
 |46::r=>if r.takeWhile za7=[] then none else zf0 {p with frac:=r.takeWhile za7} (r.dropWhile za7)
 |l=>zf0 p l
def zg1(neg:Bool)(l:Bs):Option Parts:=
 let w:=l.takeWhile za7
 if w=[]\/(1<w.length/\w.head?=some 48) then none else zl ⟨neg,w,[],false,[]⟩ (l.dropWhile za7)
def zm6(l:Bs):Option Parts:=if l.head?==some 45 then zg1 true l.tail else zg1 false l
theorem zu7(l:Bs)(c:UInt8):Lib.hasPrefix l [c]=(l.head?==some c):=by
 cases l with
 |nil=>rfl
 |cons a l=>simp[Lib.hasPrefix,List.isPrefixOf];exact Bool.beq_comm
theorem zD0(l:Bs)(c:UInt8):Lib.trimPrefix l [c]=if l.head?==some c then l.tail else l:=by
 unfold Lib.trimPrefix;rw[zu7];cases l with
 |nil=>rfl
 |cons a l=>simp
theorem nd_all(l:Bs)(h:l.all za7=true):nd l=l.length:=by
 unfold nd;have h2:l.takeWhile za7=l:=by
  induction l with
  |nil=>rfl
  |cons c l ih=>
   simp only[List.all_cons,Bool.and_eq_true]at h;rw[List.takeWhile_cons,if_pos h.1,ih h.2]
 rw[h2]
theorem nd_not(l:Bs)(h:l.all za7=false):nd l≠l.length:=by
 intro he;have h2:l.takeWhile za7=l:=(List.takeWhile_prefix za7).eq_of_length he;have h3: ∀m:Bs,m.takeWhile za7=m->m.all za7=true:=by
  intro m;induction m with
  |nil=>intro _;rfl
  |cons c m ih=>
   intro hm;rw[List.takeWhile_cons]at hm;split at hm
   ·rename_i hc;simp only[List.cons.injEq,true_and]at hm;rw[List.all_cons,hc,ih hm];rfl
   ·cases hm
 rw[h3 l h2]at h;cases h
def SplitPost(R:Option Parts)(w:World)(e:Ending)(w':World):Prop:=
 (∃v,e= .returned v/\((∃p,R=some p/\v= .tuple #[p.val,.bool true])\/(R=none/\ ∃p:Parts,v= .tuple #[p.val,.bool false])))/\Below w.heap.size w w'
theorem SplitPost.no {R:Option Parts} {w w':World} {x:Value} (p:Parts)(h:R=none)(hx:x=p.val)(hb:Below w.heap.size w w'):SplitPost R w (.returned (.tuple #[x,.bool false])) w':=⟨⟨_,rfl,.inr ⟨h,p,by rw[hx]⟩⟩,hb⟩
theorem SplitPost.yes {R:Option Parts} {w w':World} {p:Parts} {x:Value} (h:R=some p)(hx:x=p.val)(hb:Below w.heap.size w w'):SplitPost R w (.returned (.tuple #[x,.bool true])) w':=⟨⟨_,rfl,.inl ⟨p,h,by rw[hx]⟩⟩,hb⟩
theorem ze5 {w:World} {g:Nat} {t:TypeId} {a b c d e:Value} (h:Whole w g t #[a,b,c,d,e]):
 w.cell? ⟨g,0,none⟩=some a/\w.cell? ⟨g,1,none⟩=some b/\w.cell? ⟨g,2,none⟩=some c/\w.cell? ⟨g,3,none⟩=some d/\w.cell? ⟨g,4,none⟩=some e:=
 ⟨h.at_ 0,h.at_ 1,h.at_ 2,h.at_ 3,h.at_ 4⟩
theorem zr2 {B:Nat} {w W:World} (h:Below B w W) {g:Nat} (hg:B<=g)(a b c d e:Value):
 Below B w (((((W.setCell ⟨g,0,none⟩ a).setCell ⟨g,1,none⟩ b).setCell ⟨g,2,none⟩ c).setCell ⟨g,3,none⟩ d).setCell ⟨g,4,none⟩ e):=
 ((((h.setCell (p:=⟨g,0,none⟩) hg a).setCell (p:=⟨g,1,none⟩) hg b).setCell (p:=⟨g,2,none⟩) hg c).setCell (p:=⟨g,3,none⟩) hg d).setCell (p:=⟨g,4,none⟩) hg e
theorem zz3(l:Bs)(k:Nat):(st l).extract 0 k=st (l.take k):=by rw[zB1,zc7];simp
theorem zl2(l:Bs)(k:Nat):(st l).extract k l.length=st (l.drop k):=by
 rw[zB1,zc7]
 congr 2
 rw[List.take_of_length_le];rw[List.length_drop];omega
theorem zJ0(p:Parts)(c:UInt8)(r:Bs):zf0 p (c::r)=if c.toNat=101\/c.toNat=69 then zg9 p r else none:=by
 have h1:(c=101\/c=69)↔(c.toNat=101\/c.toNat=69):=by
  constructor
  ·rintro (rfl|rfl)<;>simp
  ·rintro (h|h)
   ·exact .inl (UInt8.toNat_inj.1 h)
   ·exact .inr (UInt8.toNat_inj.1 h)
 show(if c=101\/c=69 then zg9 p r else none)=_;by_cases h:c=101\/c=69
 ·rw[if_pos h,if_pos (h1.1 h)]
 ·rw[if_neg h,if_neg (fun x=>h (h1.2 x))]
theorem zq5 {w:World} {g:Nat} {t:TypeId} {cs:Array Value} (h:Whole w g t cs):
 w.frozen? ⟨g,0,none⟩=false/\w.frozen? ⟨g,1,none⟩=false/\w.frozen? ⟨g,2,none⟩=false/\w.frozen? ⟨g,3,none⟩=false/\w.frozen? ⟨g,4,none⟩=false:=
 ⟨h.free 0,h.free 1,h.free 2,h.free 3,h.free 4⟩
theorem split_any(s:ByteArray)(w:World)(hs:s.size<=maxLen):
 Calls Tryz.prog 80 #[.string s] w (SplitPost (zm6 s.data.toList) w):=by
 have HS:=hq hs;generalize hR0:zm6 s.data.toList=R;have HR0:=hq hR0;clear hR0;unfold maxLen at hs;go_enter Tryz.func80,Tryz.ntmps80
 go_wp2_with fail
 refine(Tryz.strings_CutPrefix s ⟨#[45]⟩ _).mono ?_;rintro e w1 ⟨rfl,hw1⟩;obtain rfl:=hw1.symm;rw[show (⟨#[45]⟩:ByteArray).data.toList=[45] from rfl,zu7,zD0];have hM:zm6 s.data.toList=zg1 (s.data.toList.head?==some 45) (if s.data.toList.head?==some 45 then s.data.toList.tail else s.data.toList):=by
  unfold zm6;split<;>rename_i h<;>simp[h]
 have hlen:(if s.data.toList.head?==some 45 then s.data.toList.tail else s.data.toList).length<=s.size:=by
  split
  ·rw[List.length_tail];show _-1<=s.data.toList.length;omega
  ·exact Nat.le_refl _
 generalize (if s.data.toList.head?==some 45 then s.data.toList.tail else s.data.toList)=l at *;generalize (s.data.toList.head?==some 45)=neg at *;have HM:=hq (HR0.o.symm.trans hM);clear hM HR0;go_upto_region 3 with fail
 have hW:=Whole.made (w.alloc (.cells #[.bool false,.string (st []),.string (st []),.bool false,.string (st [])] 86)) 86 #[.bool neg,.string (st []),.string (st []),.bool false,.string (st [])];have hW0:=(Whole.made w 86 #[.bool false,.string (st []),.string (st []),.bool false,.string (st [])]).alloc (.cells #[.bool neg,.string (st []),.string (st []),.bool false,.string (st [])] 86);rw[World.size_alloc]at hW;have hbel:Below w.heap.size w ((w.alloc (.cells #[.bool false,.string (st []),.string (st []),.bool false,.string (st [])] 86)).alloc (.cells #[.bool neg,.string (st []),.string (st []),.bool false,.string (st [])] 86)):=(za0 w _).alloc (by rw[World.size_alloc];omega) _;generalize ((w.alloc (.cells #[.bool false,.string (st []),.string (st []),.bool false,.string (st [])] 86)).alloc (.cells #[.bool neg,.string (st []),.string (st []),.bool false,.string (st [])] 86))=W at *
 go_cut [0] (fun s0 wx=>s0= .string (st (l.drop (nd l)))/\Below w.heap.size w wx/\Whole wx w.heap.size 86 #[.bool false,.string (st []),.string (st []),.bool false,.string (st [])]/\Whole wx (w.heap.size+1) 86 #[.bool neg,.string (st (l.take (nd l))),.string (st []),.bool false,.string (st [])])
 case first=>
  have hz:(st l).size<=maxLen:=by rw[za8];unfold maxLen;omega
  have HZ:=hq hz;have hndl:=nd_le l;clear hz;have hsz:=hW.lt;obtain⟨c0,c1,c2,c3,c4⟩:=ze5 hW;have f1:=hW.free 1;have hbel2:=hbel.drew
  go_region_with (go_at_call 124;refine(zq7 _ _ HZ.o).mono ?_;rw[zc7];rintro e w1 ⟨rfl,hb1⟩;have hW1:Whole w1 (w.heap.size+1) 86 #[.bool neg,.string (st []),.string (st []),.bool false,.string (st [])]:=Whole.grow (by assumption) hb1;obtain⟨_,q1,_,_,_⟩:=ze5 hW1;have q2:=hW1.free 1;have hbx:Below w.heap.size w w1:=za (by assumption) hb1;have hR1:Whole w1 w.heap.size 86 #[.bool false,.string (st []),.string (st []),.bool false,.string (st [])]:=Whole.grow (by assumption) hb1)
  all_goals (go_wp2_with fail;go_meet)
  all_goals (rw[zz3,zl2];exact⟨rfl,hbx.setCell (by simp) _,hR1.far (by simp) _,hW1.put 1 _⟩)
 case rest=>
  obtain⟨rfl,hbc,hc0,hc1⟩:=hcut;obtain⟨k0,k1,k2,k3,k4⟩:=ze5 hc1;obtain⟨r0,r1,r2,r3,r4⟩:=ze5 hc0;obtain⟨p0,p1,p2,p3,p4⟩:=zq5 hc0;have hndl:=nd_le l;have hR:R=if l.take (nd l)=[]\/(1<(l.take (nd l)).length/\(l.take (nd l)).head?=some 48) then none else zl ⟨neg,l.take (nd l),[],false,[]⟩ (l.drop (nd l)):=by
   rw[HM.o,take_nd,drop_nd];rfl
  have htl:(l.take (nd l)).length<=s.size:=by rw[List.length_take];omega
  have hdl:(l.drop (nd l)).length<=s.size:=by rw[List.length_drop];omega
  generalize l.take (nd l)=A at *;generalize l.drop (nd l)=D at *;have HR:=hq hR;clear hR HM;go_upto_region 4 with fail
  go_cut [38] (fun c wx=>c= .bool (decide (A=[]\/(1<A.length/\A.head?=some 48)))/\wx=wc)
  case first=>
   by_cases hA:A=[]
   ·have e1:A.isEmpty=true:=by rw[hA];rfl
    go_wp2_with fail
    go_meet
    exact⟨by rw[hA];rfl,rfl⟩
   ·have e1:A.isEmpty=false:=by cases A with|nil=>exact absurd rfl hA|cons _ _=>rfl
    have hAp:0<A.length:=List.length_pos_iff.2 hA;by_cases hl1:1<A.length
    ·have hh:A.head?=some 48↔((st A)[0]'(by rw[za8];omega)).toNat=48:=by
      cases A with
      |nil=>simp at hAp
      |cons c r=>
       constructor
       ·intro h;simp at h;subst h;rfl
       ·intro h;have h2:c.toNat=48:=h;have:c=48:=UInt8.toNat_inj.1 h2;rw[this];rfl
     have HH:=hq hh;clear hh;by_cases h8:((st A)[0]'(by rw[za8];omega)).toNat=48
     ·have e2:((((st A)[0]'(by rw[za8];omega)).toNat:Int)==48)=true:=by rw[h8];rfl
      have HB:=hq (HH.o.2 h8);clear h8;go_wp2_with fail
      go_meet
      exact⟨congrArg Value.bool (decide_eq_true (.inr ⟨hl1,HB.o⟩)).symm,rfl⟩
     ·have e2:((((st A)[0]'(by rw[za8];omega)).toNat:Int)==48)=false:=beq_eq_false_iff_ne.2 (by omega);have HB:=hq (fun h=>h8 (HH.o.1 h));clear h8;go_wp2_with fail
      go_meet
      exact⟨congrArg Value.bool (decide_eq_false (fun h=>h.elim hA (fun x=>HB.o x.2))).symm,rfl⟩
    ·go_wp2_with fail
     go_meet
     exact⟨congrArg Value.bool (decide_eq_false (fun h=>h.elim hA (fun x=>hl1 x.1))).symm,rfl⟩
  case rest=>
   obtain⟨rfl,rfl⟩:=hcut;by_cases hbad:A=[]\/(1<A.length/\A.head?=some 48)
   ·have HN:Hq (R=none):=hq (by rw[HR.o,if_pos hbad]);have hdc:decide (A=[]\/(1<A.length/\A.head?=some 48))=true:=decide_eq_true hbad;rw[hdc];clear HR hbad hdc;go_wp2_with fail
    refine bodyPost_ret (v:= .tuple #[.agg #[.bool false,.string (st []),.string (st []),.bool false,.string (st [])],.bool false]) ?_ rfl ?_
    ·simp[results,Tryz.results80,go_sem,r0,r1,r2,r3,r4]
    ·exact SplitPost.no ⟨false,[],[],false,[]⟩ HN.o rfl (zr2 hbc (Nat.le_refl _) _ _ _ _ _)
   ·have HR2:=hq (HR.o.trans (if_neg hbad));have hdc:decide (A=[]\/(1<A.length/\A.head?=some 48))=false:=decide_eq_false hbad;rw[hdc];clear HR hbad hdc;go_wp2_with fail
    refine(Tryz.strings_CutPrefix (st D) ⟨#[46]⟩ _).mono ?_;rintro e w1 ⟨rfl,hw1⟩;obtain rfl:=hw1.symm;rw[show (⟨#[46]⟩:ByteArray).data.toList=[46] from rfl,zu7,zD0,zc7];generalize hdn:(D.head?==some 46)=dn;generalize hrs:(if dn then D.tail else D)=rs;have HDN:=hq hdn;have HRS:=hq hrs;clear hdn hrs;go_upto_if 45 with fail
    go_cut [0] (fun s0 wx=> ∃F D2:Bs,s0= .string (st D2)/\Hq (R=zf0 ⟨neg,A,F,false,[]⟩ D2)/\D2.length<=s.size/\Below w.heap.size w wx/\Whole wx w.heap.size 86 #[.bool false,.string (st []),.string (st []),.bool false,.string (st [])]/\Whole wx (w.heap.size+1) 86 #[.bool neg,.string (st A),.string (st F),.bool false,.string (st [])])
    case first=>
     cases dn with
     |false=>
      have hr0:rs=D:=by rw[←HRS.o];rfl
      go_wp2_with fail
      go_meet
      refine⟨[],D,rfl,hq ?_,hdl,hbc,hc0,hc1⟩;rw[HR2.o];have hh:=HDN.o;clear HR2 HRS hr0
      match D with
      | []=>rfl
      |c::r=>
       by_cases hc:c=46
       ·subst hc;simp at hh
       ·unfold zl;split
        ·rename_i h;injection h with h1 _;exact absurd h1 hc
        ·rfl
     |true=>
      obtain⟨r,rfl⟩: ∃r,D=46::r:=by
       have hd:=HDN.o;cases D with
       |nil=>simp at hd
       |cons c r=>simp at hd;exact⟨r,by rw[hd]⟩
      have hr0:rs=r:=by rw[←HRS.o];rfl
      subst hr0;have HR3:Hq (R=if rs.take (nd rs)=[] then none else zf0 ⟨neg,A,rs.take (nd rs),false,[]⟩ (rs.drop (nd rs))):=hq (by rw[HR2.o,take_nd,drop_nd];rfl);clear HR2 HRS HDN;have hrl:rs.length<=s.size:=by simp at hdl;omega
      go_upto_region 8 with fail
      go_cut [0] (fun s0 wx=>s0= .string (st (rs.drop (nd rs)))/\Below w.heap.size w wx/\Whole wx w.heap.size 86 #[.bool false,.string (st []),.string (st []),.bool false,.string (st [])]/\Whole wx (w.heap.size+1) 86 #[.bool neg,.string (st A),.string (st (rs.take (nd rs))),.bool false,.string (st [])])
      case first=>
       have HZ:Hq ((st rs).size<=maxLen):=hq (by rw[za8];unfold maxLen;omega);have hndr:=nd_le rs;have f2:=hc1.free 2;have hbel2:=hbc.drew
       go_region_with (go_at_call 124;refine(zq7 _ _ HZ.o).mono ?_;rw[zc7];rintro e w1 ⟨rfl,hb1⟩;have hW1:Whole w1 (w.heap.size+1) 86 #[.bool neg,.string (st A),.string (st []),.bool false,.string (st [])]:=Whole.grow (by assumption) hb1;obtain⟨_,_,q1,_,_⟩:=ze5 hW1;have q2:=hW1.free 2;have hbx:Below w.heap.size w w1:=za (by assumption) hb1;have hR1:Whole w1 w.heap.size 86 #[.bool false,.string (st []),.string (st []),.bool false,.string (st [])]:=Whole.grow (by assumption) hb1)
       all_goals (go_wp2_with fail;go_meet)
       all_goals (rw[zz3,zl2];exact⟨rfl,hbx.setCell (by simp) _,hR1.far (by simp) _,hW1.put 2 _⟩)
      case rest=>
       clear k0 k1 k2 k3 k4 r0 r1 r2 r3 r4 p0 p1 p2 p3 p4 hbc hc0 hc1;obtain⟨rfl,hbc,hc0,hc1⟩:=hcut;obtain⟨k0,k1,k2,k3,k4⟩:=ze5 hc1;obtain⟨r0,r1,r2,r3,r4⟩:=ze5 hc0;obtain⟨p0,p1,p2,p3,p4⟩:=zq5 hc0;have hdl2:(rs.drop (nd rs)).length<=s.size:=by rw[List.length_drop];omega
       have hfl:(rs.take (nd rs)).length<=s.size:=by rw[List.length_take];omega
       generalize rs.take (nd rs)=F at *;generalize rs.drop (nd rs)=D2 at *;by_cases hF:F=[]
       ·have HN:Hq (R=none):=hq (by rw[HR3.o,if_pos hF]);clear HR3;have e3:F.isEmpty=true:=by rw[hF];rfl
        go_wp2_with fail
        refine bodyPost_ret (v:= .tuple #[.agg #[.bool false,.string (st []),.string (st []),.bool false,.string (st [])],.bool false]) ?_ rfl ?_
        ·simp[results,Tryz.results80,go_sem,r0,r1,r2,r3,r4]
        ·exact SplitPost.no ⟨false,[],[],false,[]⟩ HN.o rfl (zr2 hbc (Nat.le_refl _) _ _ _ _ _)
       ·have HR4:=hq (HR3.o.trans (if_neg hF));clear HR3;have e3:F.isEmpty=false:=by cases F with|nil=>exact absurd rfl hF|cons _ _=>rfl
        clear hF;go_wp2_with fail
        go_meet
        exact⟨F,D2,rfl,HR4,hdl2,hbc,hc0,hc1⟩
    case rest=>
     clear k0 k1 k2 k3 k4 r0 r1 r2 r3 r4 p0 p1 p2 p3 p4 hbc hc0 hc1;obtain⟨F,D2,rfl,HR4,hdl2,hbc,hc0,hc1⟩:=hcut;obtain⟨k0,k1,k2,k3,k4⟩:=ze5 hc1;obtain⟨r0,r1,r2,r3,r4⟩:=ze5 hc0;obtain⟨p0,p1,p2,p3,p4⟩:=zq5 hc0;by_cases hD:D2=[]
     ·have HY:Hq (R=some ⟨neg,A,F,false,[]⟩):=hq (by rw[HR4.o,hD];rfl);have e4:D2.isEmpty=true:=by rw[hD];rfl
      clear HR4 hD;go_wp2_with fail
      refine bodyPost_ret (v:= .tuple #[.agg #[.bool neg,.string (st A),.string (st F),.bool false,.string (st [])],.bool true]) ?_ rfl ?_
      ·simp[results,Tryz.results80,go_sem,r0,r1,r2,r3,r4]
      ·exact SplitPost.yes HY.o rfl (zr2 hbc (Nat.le_refl _) _ _ _ _ _)
     ·have e4:D2.isEmpty=false:=by cases D2 with|nil=>exact absurd rfl hD|cons _ _=>rfl
      have hDp:0<D2.length:=List.length_pos_iff.2 hD;have hz0:0<(st D2).size:=by rw[za8];exact hDp
      have HR5:Hq (R=if (st D2)[0].toNat=101\/(st D2)[0].toNat=69 then zg9 ⟨neg,A,F,false,[]⟩ (D2.drop 1) else none):=hq (by
       rw[HR4.o];cases D2 with
       |nil=>exact absurd rfl hD
       |cons c r=>exact zJ0 _ c r)
      clear HR4 hD;generalize hT0:(st D2)[0].toNat=n0 at HR5;have hT0z:(((st D2)[0]).toNat:Int)=(n0:Int):=by rw[hT0]
      clear hT0;go_upto_region 13 with fail
      go_cut [69] (fun c wx=>c= .bool (decide (¬(n0=101\/n0=69)))/\wx=wc)
      case first=>
       by_cases h1:n0=101
       ·have e5:((n0:Int) !=101)=false:=by subst h1;rfl
        have hh:Hq (decide (¬(n0=101\/n0=69))=false):=hq (decide_eq_false (fun h=>h (.inl h1)));clear h1;go_wp2_with fail
        go_meet
        exact⟨congrArg Value.bool hh.o.symm,rfl⟩
       ·have e5:((n0:Int) !=101)=true:=by rw[bne_iff_ne];omega
        by_cases h2:n0=69
        ·have e6:((n0:Int) !=69)=false:=by subst h2;rfl
         have hh:Hq (decide (¬(n0=101\/n0=69))=false):=hq (decide_eq_false (fun h=>h (.inr h2)));clear h1 h2;go_wp2_with fail
         go_meet
         exact⟨congrArg Value.bool hh.o.symm,rfl⟩
        ·have e6:((n0:Int) !=69)=true:=by rw[bne_iff_ne];omega
         have hh:Hq (decide (¬(n0=101\/n0=69))=true):=hq (decide_eq_true (fun h=>h.elim h1 h2));clear h1 h2;go_wp2_with fail
         go_meet
         exact⟨congrArg Value.bool hh.o.symm,rfl⟩
      case rest=>
       obtain⟨rfl,rfl⟩:=hcut;by_cases hE:n0=101\/n0=69
       ·have HR6:=hq (HR5.o.trans (if_pos hE));have hdc:decide (¬(n0=101\/n0=69))=false:=decide_eq_false (fun h=>h hE);rw[hdc];clear HR5 hE hdc;have hd1:(D2.drop 1).length<=s.size:=by rw[List.length_drop];omega
        go_wp2_with fail
        refine(Tryz.strings_CutPrefix _ ⟨#[45]⟩ _).mono ?_;rintro e w1 ⟨rfl,hw1⟩;obtain rfl:=hw1.symm;rw[show (⟨#[45]⟩:ByteArray).data.toList=[45] from rfl,zl2,zu7,zD0,zc7];generalize hE:D2.drop 1=E at *;clear hE;have hEt:E.tail.length<=s.size:=by rw[List.length_tail];omega
        generalize hdn:(E.head?==some 45)=dn;generalize hrs:(if dn then E.tail else E)=rs;have HDN:=hq hdn;have HRS:=hq hrs;clear hdn hrs;go_upto_if 78 with fail
        go_cut [0] (fun s0 wx=> ∃(T:Bs) (db:Bool),s0= .string (st T)/\Hq (R=zg8 ⟨neg,A,F,false,[]⟩ db T)/\T.length<=s.size/\Below w.heap.size w wx/\Whole wx w.heap.size 86 #[.bool false,.string (st []),.string (st []),.bool false,.string (st [])]/\Whole wx (w.heap.size+1) 86 #[.bool neg,.string (st A),.string (st F),.bool db,.string (st [])])
        case first=>
         cases dn with
         |true=>
          have hr0:rs=E.tail:=by rw[←HRS.o];rfl
          subst hr0;have HR7:Hq (R=zg8 ⟨neg,A,F,false,[]⟩ true E.tail):=hq (by rw[HR6.o];unfold zg9;rw[HDN.o,if_pos rfl]);clear HR6 HDN HRS;have q3:=hc1.free 3;go_wp2_with fail
          go_meet
          exact⟨E.tail,true,rfl,HR7,hEt,hbc.setCell (by simp) _,hc0.far (by simp) _,hc1.put 3 _⟩
         |false=>
          have HR7:Hq (R=zg8 ⟨neg,A,F,false,[]⟩ false (if E.head?==some 43 then E.tail else E)):=hq (by rw[HR6.o];unfold zg9;rw[HDN.o,if_neg (by decide)]);clear HR6 HDN HRS;have hEz:(if E.head?==some 43 then E.tail else E).length<=s.size:=by
           split
           ·exact hEt
           ·exact hd1
          go_wp2_with fail
          refine(Tryz.strings_TrimPrefix (st E) ⟨#[43]⟩ _).mono ?_;rintro e w1 ⟨rfl,hw1⟩;obtain rfl:=hw1.symm;rw[show (⟨#[43]⟩:ByteArray).data.toList=[43] from rfl,zD0,zc7];generalize (if E.head?==some 43 then E.tail else E)=T at *;go_wp2_with fail
          go_meet
          exact⟨T,false,rfl,HR7,hEz,hbc,hc0,hc1⟩
        case rest=>
         clear k0 k1 k2 k3 k4 r0 r1 r2 r3 r4 p0 p1 p2 p3 p4 hbc hc0 hc1;obtain⟨T,db,rfl,HR7,hTl,hbc,hc0,hc1⟩:=hcut;have k4:=hc1.at_ 4;have q4:=hc1.free 4;have k4:wc.cell? ⟨w.heap.size+1,4,none⟩=some (.string (st [])):=k4;go_upto_region 21 with fail
         have hd1c:=hc1.put 4 (.string (st T));have hd0c:=hc0.far (p:=⟨w.heap.size+1,4,none⟩) (by simp) (.string (st T));have hbd:=hbc.setCell (p:=⟨w.heap.size+1,4,none⟩) (by simp) (.string (st T));clear k4 q4;generalize (wc.setCell ⟨w.heap.size+1,4,none⟩ (.string (st T)))=W2 at *;have hd1c:Whole W2 (w.heap.size+1) 86 #[.bool neg,.string (st A),.string (st F),.bool db,.string (st T)]:=hd1c;obtain⟨k0,k1,k2,k3,k4⟩:=ze5 hd1c;obtain⟨r0,r1,r2,r3,r4⟩:=ze5 hd0c;obtain⟨p0,p1,p2,p3,p4⟩:=zq5 hd0c;have hbel2:=hbd.drew;by_cases hT:T=[]
         ·have HN:Hq (R=none):=hq (by rw[HR7.o];unfold zg8;rw[if_neg (fun h=>h.1 hT)]);clear HR7;subst hT
          go_region
          all_goals go_wp2_with fail
          all_goals refine bodyPost_ret (v:= .tuple #[.agg #[.bool neg,.string (st A),.string (st F),.bool db,.string (st [])],.bool false]) ?_ rfl ?_
          all_goals first
           |exact SplitPost.no ⟨neg,A,F,db,[]⟩ HN.o rfl (zr2 hbd (Nat.le_refl _) _ _ _ _ _).drew
           |simp[results,Tryz.results80,go_sem,r0,r1,r2,r3,r4]
         ·obtain ⟨c,T',rfl⟩: ∃c T',T=c::T':=by
           cases T with
           |nil=>exact absurd rfl hT
           |cons c r=>exact⟨c,r,rfl⟩
          have HZ:Hq ((st (c::T')).size<=maxLen):=hq (by rw[za8];unfold maxLen;omega);clear hT;generalize hnd:nd (c::T')=nn;by_cases hall:nn=T'.length+1
          ·have HY:Hq (R=some ⟨neg,A,F,db,c::T'⟩):=hq (by
            rw[HR7.o];unfold zg8;rw[if_pos];refine⟨by simp,?_⟩;cases hx:(c::T').all za7 with
            |true=>rfl
            |false=>exact absurd (hnd.trans hall) (nd_not _ hx))
           subst hall;have HND:=hq hnd;clear HR7 hnd
           go_region_with (go_at_call 124;refine(zq7 _ _ HZ.o).mono ?_;rw[zc7,HND.o];rintro e w1 ⟨rfl,hb1⟩;have hW1:Whole w1 (w.heap.size+1) 86 #[.bool neg,.string (st A),.string (st F),.bool db,.string (st (c::T'))]:=Whole.grow (by assumption) hb1;obtain⟨k0,k1,k2,k3,k4⟩:=ze5 hW1;have hbx:Below w.heap.size w w1:=za (by assumption) hb1;have hR1:Whole w1 w.heap.size 86 #[.bool false,.string (st []),.string (st []),.bool false,.string (st [])]:=Whole.grow (by assumption) hb1;obtain⟨r0,r1,r2,r3,r4⟩:=ze5 hR1;obtain⟨p0,p1,p2,p3,p4⟩:=zq5 hR1)
           all_goals go_wp2_with fail
           all_goals refine bodyPost_ret (v:= .tuple #[.agg #[.bool neg,.string (st A),.string (st F),.bool db,.string (st (c::T'))],.bool true]) ?_ rfl ?_
           all_goals first
            |exact SplitPost.yes HY.o rfl (zr2 hbx (Nat.le_refl _) _ _ _ _ _)
            |simp[results,Tryz.results80,go_sem,r0,r1,r2,r3,r4]
          ·have HN:Hq (R=none):=hq (by
            rw[HR7.o];unfold zg8;rw[if_neg];intro h;exact hall (hnd.symm.trans (nd_all _ h.2)))
           have eqf:(((nn:Nat):Int)==((T'.length:Nat):Int)+1)=false:=beq_eq_false_iff_ne.2 (by omega);have HND:=hq hnd;clear HR7 hnd
           go_region_with (go_at_call 124;refine(zq7 _ _ HZ.o).mono ?_;rw[zc7,HND.o];rintro e w1 ⟨rfl,hb1⟩;have hW1:Whole w1 (w.heap.size+1) 86 #[.bool neg,.string (st A),.string (st F),.bool db,.string (st (c::T'))]:=Whole.grow (by assumption) hb1;obtain⟨k0,k1,k2,k3,k4⟩:=ze5 hW1;have hbx:Below w.heap.size w w1:=za (by assumption) hb1;have hR1:Whole w1 w.heap.size 86 #[.bool false,.string (st []),.string (st []),.bool false,.string (st [])]:=Whole.grow (by assumption) hb1;obtain⟨r0,r1,r2,r3,r4⟩:=ze5 hR1;obtain⟨p0,p1,p2,p3,p4⟩:=zq5 hR1)
           all_goals go_wp2_with fail
           all_goals refine bodyPost_ret (v:= .tuple #[.agg #[.bool neg,.string (st A),.string (st F),.bool db,.string (st (c::T'))],.bool false]) ?_ rfl ?_
           all_goals first
            |exact SplitPost.no ⟨neg,A,F,db,c::T'⟩ HN.o rfl (zr2 hbx (Nat.le_refl _) _ _ _ _ _)
            |simp[results,Tryz.results80,go_sem,r0,r1,r2,r3,r4]
       ·have HN:Hq (R=none):=hq (HR5.o.trans (if_neg hE));have hdc:decide (¬(n0=101\/n0=69))=true:=decide_eq_true hE;rw[hdc];clear HR5 hE hdc;go_wp2_with fail
        refine bodyPost_ret (v:= .tuple #[.agg #[.bool false,.string (st []),.string (st []),.bool false,.string (st [])],.bool false]) ?_ rfl ?_
        ·simp[results,Tryz.results80,go_sem,r0,r1,r2,r3,r4]
        ·exact SplitPost.no ⟨false,[],[],false,[]⟩ HN.o rfl (zr2 hbc (Nat.le_refl _) _ _ _ _ _)
theorem zq8 {u:Nat} (h:u<10):Lib.decDigits u=[UInt8.ofNat (48+u)]:=by rw[Lib.decDigits,dif_pos h]
theorem zz2 {u:Nat} (h: ¬u<10):Lib.decDigits u=Lib.decDigits (u/10)++[UInt8.ofNat (48+u%10)]:=by rw[Lib.decDigits,dif_neg h]
theorem zL5 {k:Nat} (h:k<10):(UInt8.ofNat (48+k)).toNat=48+k:=by
 rw[UInt8.toNat_ofNat'];omega
theorem zM7 {k:Nat} (h:k<10):za7 (UInt8.ofNat (48+k))=true:=by
 unfold za7;rw[zL5 h];simp;omega
theorem dec_all(u:Nat):(Lib.decDigits u).all za7=true:=by
 induction u using Nat.strongRecOn with
 |ind u ih=>
  by_cases h:u<10
  ·rw[zq8 h,List.all_cons,zM7 h];rfl
  ·rw[zz2 h,List.all_append,ih (u/10) (by omega),List.all_cons,zM7 (Nat.mod_lt u (by omega:0<10))];rfl
theorem dec_ne(u:Nat):Lib.decDigits u≠ []:=by
 by_cases h:u<10
 ·rw[zq8 h];simp
 ·rw[zz2 h];simp
theorem dec_head(u:Nat)(hu:0<u):(Lib.decDigits u).head?≠some 48:=by
 induction u using Nat.strongRecOn with
 |ind u ih=>
  by_cases h:u<10
  ·rw[zq8 h];intro hh;have:=congrArg UInt8.toNat (Option.some.inj hh);rw[zL5 h]at this;simp at this;omega
  ·have hi:=ih (u/10) (by omega) (by omega);rw[zz2 h];cases he:Lib.decDigits (u/10) with
   |nil=>exact absurd he (dec_ne _)
   |cons c l=>rw[he]at hi;exact hi
theorem takeWhile_eq {l:Bs} (h:l.all za7=true):l.takeWhile za7=l/\l.dropWhile za7=[]:=by
 induction l with
 |nil=>exact⟨rfl,rfl⟩
 |cons c l ih=>
  rw[List.all_cons,Bool.and_eq_true]at h;obtain⟨h1,h2⟩:=ih h.2;exact⟨by rw[List.takeWhile_cons,if_pos h.1,h1],by rw[List.dropWhile_cons,if_pos h.1,h2]⟩
theorem zv7(neg:Bool)(u:Nat):zg1 neg (Lib.decDigits u)=some ⟨neg,Lib.decDigits u,[],false,[]⟩:=by
 obtain⟨h1,h2⟩:=takeWhile_eq (dec_all u);unfold zg1;simp only[h1,h2];rw[if_neg]
 ·rfl
 ·rintro (h|⟨h,hh⟩)
  ·exact dec_ne u h
  ·by_cases h0:u=0
   ·subst h0;rw[zq8 (by omega)]at h;simp at h
   ·exact dec_head u (by omega) hh
theorem head_not(u:Nat):((Lib.decDigits u).head?==some 45)=false:=by
 have hd:=dec_all u;cases he:Lib.decDigits u with
 |nil=>rfl
 |cons c l=>
  rw[he,List.all_cons,Bool.and_eq_true]at hd;have:=dig_bd hd.1;rw[List.head?_cons];refine beq_eq_false_iff_ne.2 (fun h=> ?_);have:=congrArg UInt8.toNat (Option.some.inj h);simp at this;omega
theorem splitM_itoa(n:Int):zm6 (Lib.itoa n)=some ⟨decide (n<0),Lib.decDigits n.natAbs,[],false,[]⟩:=by
 unfold Lib.itoa zm6;by_cases h:n<0
 ·rw[if_pos h,if_pos (by rfl),List.tail_cons,zv7,decide_eq_true h]
 ·rw[if_neg h,if_neg (by rw[head_not];simp),zv7,decide_eq_false h,show n.natAbs=n.toNat by omega]
theorem zE6(l:Bs)(c:UInt8):zd6 (l++[c])=if c=48 then zd6 l else l++[c]:=by
 unfold zd6 Lib.trimRightB;rw[List.reverse_append,List.reverse_singleton,List.singleton_append,List.dropWhile_cons];by_cases h:c=48
 ·rw[if_pos (by simp[h]),if_pos h]
 ·rw[if_neg (by simp[h]),if_neg h];simp
theorem zs4: ∀r:Bs,zc9 r.reverse=zc9 (zd6 r.reverse)*10^(r.length-(zd6 r.reverse).length)/\(zd6 r.reverse).length<=r.length/\(zd6 r.reverse).getLast?≠some 48/\ ∃t,r.reverse=zd6 r.reverse++t
 | []=>⟨by simp[zc9,zd6,Lib.trimRightB],by simp[zd6,Lib.trimRightB],by simp[zd6,Lib.trimRightB],[],by simp[zd6,Lib.trimRightB]⟩
 |c::r=>by
  obtain⟨h1,h2,h3,t,h4⟩:=zs4 r;rw[List.reverse_cons,zE6];by_cases h:c=48
  ·rw[if_pos h];refine⟨?_,by rw[List.length_cons];omega,h3,t++[c],by rw[←List.append_assoc,←h4]⟩;rw[zu9,h1,List.length_cons,show r.length+1-(zd6 r.reverse).length=r.length-(zd6 r.reverse).length+1 by omega,Int.pow_succ,h];have e:((48:UInt8).toNat:Int)-48=0:=by decide
   rw[e];generalize (10:Int)^(r.length-(zd6 r.reverse).length)=T;generalize zc9 (zd6 r.reverse)=Q
   grind
  ·rw[if_neg h];refine⟨by simp,by simp,?_,[],by simp⟩;rw[List.getLast?_concat];exact fun hh=>h (Option.some.inj hh)
theorem stripR_last(l:Bs):(zd6 l).getLast?≠some 48:=by
 have:=(zs4 l.reverse).2.2.1;rwa [List.reverse_reverse]at this
theorem stripR_pre(l:Bs): ∃t,l=zd6 l++t:=by
 have:=(zs4 l.reverse).2.2.2;rwa [List.reverse_reverse]at this
end Go.Proofs.YtkafjblfjdpdaaaGreatDoor
