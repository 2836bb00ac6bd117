/-
  WALKS: lex.next.
  WALKS: lex.All, and the iterator that it hands back.
  WALKS: lex.Tokens.
  WALK: the small cases of layer 4.
  WALKS: lex.Text; the law LexAlone.
-/
import Derived.Test.YtkafjblfjdpdaaaGreatDoorLexa
import Derived.Test.YtkafjblfjdpdaaaGreatDoorUnv
set_option maxHeartbeats 4000000
set_option maxRecDepth 1000000
namespace Go.Proofs.YtkafjblfjdpdaaaGreatDoor
open Go.RowKit
def OnePost(o:Nat×Nat×Int)(w:World)(e:Ending)(w':World):Prop:=e= .returned (.tuple #[.int .i64 (o.1:Int),.int .i64 (o.2.1:Int),.int .i64 o.2.2])/\Below w.heap.size w w'
theorem OnePost.mk {o:Nat×Nat×Int} {k t:Nat} {a b c e:Int} {w w':World} (h:o=(k,t,e))(ha:a=(k:Int))(hb:b=(t:Int))(hc:c=e)(hw:Below w.heap.size w w'):OnePost o w (.returned (.tuple #[.int .i64 a,.int .i64 b,.int .i64 c])) w':=by
 subst h;subst ha;subst hb;subst hc;exact⟨rfl,hw⟩
theorem next4_any(s:ByteArray)(p:Nat)(w:World)(hT:tabs w)(hs:s.size<=1099511627776)(hp:p<s.size):
 Calls Tryz.prog 189 #[.string s,.int .i64 (p:Int)] w (OnePost (oneM s p) w):=by
 have y0:((s[p]'hp).toNat:Int)=(byt s p:Int):=by rw[zb6 s p hp]
 have HT:=hq hT;have HSG:=hq (fun W=>sign4_any (byt s p) W);have hone:oneM s p=if zn8 (byt s p)≠0 then(zn8 (byt s p),p+1,0)
  else if zf1 (byt s p)=true then(1,zc6 s zf1 p,0)
  else if byt s p=34 then(8,(zb7 s p).1,(zb7 s p).2.1)
  else if byt s p=45\/48<=byt s p/\byt s p<=57 then
   (if (zb3 (sub s p (zc6 s zj2 p))).2≠0 then(0,p,(zb3 (sub s p (zc6 s zj2 p))).2) else(9,zc6 s zj2 p,0))
  else if zp4 (sub s p (zc6 s zi2 p))≠0 then(zp4 (sub s p (zc6 s zi2 p)),zc6 s zi2 p,0) else(0,p,2):=rfl
 have HONE:=hq hone;have HBI:=hq (zA9 zu2 zf1 zF0 (byt s p) (zd3 s p));have HRB:=hq (fun W=>zO1 zu2 zf1 zF0 s p W hs (by omega));have HRN:=hq (fun W=>zO1 setNum zj2 setNum_is s p W hs (by omega));have HRL:=hq (fun W=>zO1 setLet zi2 setLet_is s p W hs (by omega));have HEND:=hq (fun W (hW:tabs W)=>end_any s (p:Int) W hW hs (by omega));have hendM:endM s (p:Int)=((zb7 s p).1,(zb7 s p).2.1):=by unfold endM;rw[if_neg (by omega)];rfl
 rw[hendM]at HEND;have hnl:=zr3 s zj2 p (by omega);have hng:=zp0 s zj2 p;have hll:=zr3 s zi2 p (by omega);have hlg:=zp0 s zi2 p;have HPA:=hq (fun W=>zy2 (s.extract p (zc6 s zj2 p)) W (by rw[ByteArray.size_extract];omega));have HWO:=hq (fun W=>word4_any (s.extract p (zc6 s zi2 p)) W)
 change Hq (∀W,Calls Tryz.prog 42 #[.string (s.extract p (zc6 s zj2 p))] W (zI8 (zb3 (sub s p (zc6 s zj2 p))) W)) at HPA
 change Hq (∀W,Calls Tryz.prog 214 #[.string (s.extract p (zc6 s zi2 p))] W fun e w'=>e= .returned (.int .i64 (zp4 (sub s p (zc6 s zi2 p)):Int))/\W=w') at HWO
 clear hone hT hendM;generalize oneM s p=R at *;generalize zb3 (sub s p (zc6 s zj2 p))=PA at *;generalize zp4 (sub s p (zc6 s zi2 p))=WO at *;generalize zc6 s zj2 p=RN at *;generalize zc6 s zi2 p=RL at *;generalize zc6 s zf1 p=RB at *;generalize zb7 s p=SC at *;generalize hB:zf1 (byt s p)=BL at *;clear hB;generalize hG:zn8 (byt s p)=SG at *;clear hG;generalize byt s p=c at *;go_enter Tryz.func189,Tryz.ntmps189
 go_wp2_with fail
 refine(HSG.o _).mono ?_;rintro e w' ⟨rfl,hw⟩;obtain rfl:=hw;clear HSG;by_cases h1:SG≠0
 ·have HN:=hq (HONE.o.trans (if_pos h1));have e1:((SG:Int) !=0)=true:=bne_iff_ne.2 (by omega);clear HONE h1 HBI HRB HRN HRL HEND HPA HWO;go_wp2_with fail
  go_ret3
  exact OnePost.mk HN.o rfl (by omega) rfl (Below.refl _ _)
 ·have HO2:=hq (HONE.o.trans (if_neg h1));have e1:((SG:Int) !=0)=false:=by rw[show SG=0 by omega];rfl
  obtain⟨I,hI,i1,i2⟩:=HBI.o;have HI:=hq hI;clear HONE h1 HBI hI;cases BL with
  |true=>
   have hi:=i1 rfl;have HN:=hq (HO2.o.trans (if_pos rfl));clear HO2 i1 i2 HRN HRL HEND HPA HWO;go_wp2_with fail
   refine(HI.o _).mono ?_;rintro e w' ⟨rfl,hw⟩;obtain rfl:=hw;clear HI;go_wp2_with fail
   refine(HRB.o _).mono ?_;rintro e w' ⟨rfl,hw⟩;obtain rfl:=hw;clear HRB;go_wp2_with fail
   go_ret3
   exact OnePost.mk HN.o rfl rfl rfl (Below.refl _ _)
  |false=>
   have hi:=i2 rfl;have HO3:=hq (HO2.o.trans (if_neg (by decide)));clear HO2 i1 i2 HRB;go_wp2_with fail
   refine(HI.o _).mono ?_;rintro e w' ⟨rfl,hw⟩;obtain rfl:=hw;clear HI;by_cases h3:c=34
   ·have HN:=hq (HO3.o.trans (if_pos h3));have e3:((c:Int)==34)=true:=by rw[h3];rfl
    clear HO3 h3 HRN HRL HPA HWO;go_wp2_with fail
    refine(HEND.o _ HT.o).mono ?_;rintro e w2 ⟨rfl,hb⟩;clear HEND;go_wp2_with fail
    go_ret3
    exact OnePost.mk HN.o rfl rfl rfl hb
   ·have HO4:=hq (HO3.o.trans (if_neg h3));have e3:((c:Int)==34)=false:=beq_eq_false_iff_ne.2 (by omega);clear HO3 h3 HEND;by_cases hnum:c=45\/48<=c/\c<=57
    ·have HO5:=hq (HO4.o.trans (if_pos hnum));obtain⟨⟨pn,pd,pe⟩,pr⟩:=PA;clear HO4 HRL HWO;have key:(((c:Int)==45)=true)\/((((c:Int)==45)=false)/\48<=c/\c<=57):=by
      by_cases h45:c=45
      ·left;rw[h45];rfl
      ·right;exact⟨beq_eq_false_iff_ne.2 (by omega),by omega,by omega⟩
     clear hnum;rcases key with e4|⟨e4,g1,g2⟩
     all_goals
      go_wp2_with fail
      refine(HRN.o _).mono ?_;rintro e w' ⟨rfl,hw⟩;obtain rfl:=hw;clear HRN;go_wp2_with fail
      refine(HPA.o _).mono ?_;rintro e w2 ⟨rfl,hb⟩;clear HPA;simp only[Dec.val];by_cases hpr:pr=0
      ·have e5:(pr !=0)=false:=by rw[hpr];rfl
       have HN:=hq (HO5.o.trans (if_neg (fun h=>h hpr)));clear HO5 hpr;go_wp2_with fail
       go_ret3
       exact OnePost.mk HN.o rfl rfl rfl (hb.alloc (by have:=hb.size;omega) _)
      ·have e5:(pr !=0)=true:=bne_iff_ne.2 hpr;have HN:=hq (HO5.o.trans (if_pos hpr));clear HO5 hpr;go_wp2_with fail
       go_ret3
       exact OnePost.mk HN.o rfl rfl rfl (hb.alloc (by have:=hb.size;omega) _)
    ·have HO5:=hq (HO4.o.trans (if_neg hnum));have e4:((c:Int)==45)=false:=beq_eq_false_iff_ne.2 (by omega);clear HO4 HRN HPA;have key:(48<=c/\ ¬c<=57)\/ ¬48<=c:=by omega
     clear hnum;rcases key with ⟨g1,g2⟩|g1
     all_goals
      go_wp2_with fail
      refine(HRL.o _).mono ?_;rintro e w' ⟨rfl,hw⟩;obtain rfl:=hw;clear HRL;go_wp2_with fail
      refine(HWO.o _).mono ?_;rintro e w' ⟨rfl,hw⟩;obtain rfl:=hw;clear HWO;by_cases hwo:WO≠0
      ·have e5:((WO:Int) !=0)=true:=bne_iff_ne.2 (by omega);have HN:=hq (HO5.o.trans (if_pos hwo));clear HO5 hwo;go_wp2_with fail
       go_ret3
       exact OnePost.mk HN.o rfl rfl rfl (Below.refl _ _)
      ·have e5:((WO:Int) !=0)=false:=by rw[show WO=0 by omega];rfl
       have HN:=hq (HO5.o.trans (if_neg hwo));clear HO5 hwo;go_wp2_with fail
       go_ret3
       exact OnePost.mk HN.o rfl rfl rfl (Below.refl _ _)
end Go.Proofs.YtkafjblfjdpdaaaGreatDoor
namespace Go.Proofs.YtkafjblfjdpdaaaGreatDoor
open Go.RowKit Go.Shelf
attribute [local go_sem] Oper.semAt_some
abbrev Item:=Nat×Nat×Nat×Int
abbrev tokV(k a b:Nat):Value:= .agg #[.int .i64 (k:Int),.int .i64 (a:Int),.int .i64 (b:Int)]
abbrev itemV(x:Item):Array Value:= #[tokV x.1 x.2.1 x.2.2.1,.int .i64 x.2.2.2]
def zl1(s:ByteArray):Nat->Nat->List Item
 |0,_=> []
 |f+1,p=>
  if p<s.size then
   (if (oneM s p).2.2≠0 then [(0,(oneM s p).2.1,(oneM s p).2.1,(oneM s p).2.2)] else((oneM s p).1,p,(oneM s p).2.1,0)::zl1 s f (oneM s p).2.1)
  else []
def items(s:ByteArray):List Item:=if 65536<s.size then [(0,0,0,3)] else zl1 s s.size 0
theorem itemsL_end {s:ByteArray} {f p:Nat} (h: ¬p<s.size):zl1 s f p=[]:=by
 cases f with
 |zero=>rfl
 |succ f=>rw[zl1,if_neg h]
def KpB(n₀ Bn:Nat)(A B:World):Prop:=Below n₀ A B/\B.heap[Bn]?=A.heap[Bn]?
theorem all4_one(l Bn n₀:Nat)(s:ByteArray)(hsm:s.size<=maxLen)(J Jx:List Item->World->Prop)
 (hY: ∀pre x W,J pre W->pre.length<(items s).length->YieldAt Fence.wide 8 Tryz.prog l (itemV x) W fun e W'=>
  (e= .returned (.bool true)/\J (pre++[x]) W'/\KpB n₀ Bn W W')\/(e= .returned (.bool false)/\Jx (pre++[x]) W'))
 (W:World) (hJ: ∀pre A B,J pre A->Below A.heap.size A B->J pre B)
 (hBn:W.cell? ⟨Bn,0,none⟩=some (.string s)) (hBl:Bn<W.heap.size) (hT: ∀A,Below n₀ W A->tabs A) (hn₀:n₀<=W.heap.size) (h0:J [] W):
 CallsIn Fence.wide 9 Tryz.prog 188 #[.func (.yield l) #[] #[],.pointer (some ⟨Bn,0,none⟩)] W fun e W'=>(∃v,e= .returned v)/\
  ((∃ys,ys=items s/\J ys W')\/(∃pre,pre<+:items s/\Jx pre W')):=by
 refine callsIn_of_wp Tryz.func188 rfl trivial ?_ rfl;simp only[Tryz.ntmps188,List.size_toArray,List.length_cons,List.length_nil,Nat.reduceAdd,Nat.reduceSub,Array.replicate_succ,Array.replicate_zero,List.push_toArray,List.append_toArray,List.nil_append,List.cons_append];unfold maxLen at hsm;by_cases hlong:65536<s.size
 ·have hi:items s=[(0,0,0,3)]:=if_pos hlong;have hlong':(65536:Int)<(s.size:Int):=by omega
  obtain⟨fn,tmps,assign,body,hy,hR⟩:=hY [] (0,0,0,3) W h0 (by rw[hi];simp);have hy':(Instr.yield l #[.agg #[.int .i64 0,.int .i64 0,.int .i64 0],.int .i64 3]).run Tryz.prog W= .ok (.round l fn tmps assign body) W:=hy;have HI:=hq hi;clear hy hi hJ hT hlong
  gi_wp2
  refine hR.mono ?_;rintro e W3 (⟨rfl,hJ3,hk3⟩|⟨rfl,hJx3⟩)
  ·gi_wp2
   refine bodyPost_ret (results_none rfl _ _ _) rfl ?_;exact⟨⟨_,rfl⟩,.inl ⟨_,by rw[HI.o];rfl,hJ3⟩⟩
  ·gi_wp2
   refine bodyPost_ret (results_none rfl _ _ _) rfl ?_;exact⟨⟨_,rfl⟩,.inr ⟨_,by rw[HI.o];exact List.prefix_refl _,hJx3⟩⟩
 ·have HI:Hq (items s=zl1 s s.size 0):=hq (if_neg hlong);have hs:s.size<=1099511627776:=by omega
  have hlong': ¬(65536:Int)<(s.size:Int):=by omega
  have HJ:=hq hJ;have HT:=hq hT;have HB:=hq hBn;have HY:=hq hY;clear hJ hT hY
  gi_wp2
  clear hBn
  gi_loopw [3] (fun at' wr=> ∃(p f:Nat) (pre:List Item),at'= .int .i64 (p:Int)/\p<=s.size/\s.size<=p+f/\Hq (items s=pre++zl1 s f p)/\J pre wr/\Below n₀ W wr/\Hq (wr.heap[Bn]?=W.heap[Bn]?)) (fun at' _=>s.size-(intOf at').toNat)
  case atStart=>
   exact⟨0,s.size,[],rfl,Nat.zero_le _,by omega,HI,h0,Below.refl _ _,hq rfl⟩
  case round=>
   obtain⟨p,f,pre,rfl,hp,hf,hit,hj,hb,hbo⟩:=hrel;clear HI h0;have hc:wr.cell? ⟨Bn,0,none⟩=some (.string s):=(World.cell?_of_block (a:=⟨Bn,0,none⟩) hbo.o).trans HB.o;by_cases hlt:p<s.size
   ·obtain ⟨f,rfl⟩: ∃g,f=g+1:=⟨f-1,by omega⟩;obtain⟨b1,b2,b3,b4⟩:=zA4 s p hlt;have HN:=hq (next4_any s p wr (HT.o _ hb) hs hlt);have HIT:Hq (items s=pre++(if (oneM s p).2.2≠0 then [(0,(oneM s p).2.1,(oneM s p).2.1,(oneM s p).2.2)] else((oneM s p).1,p,(oneM s p).2.1,0)::zl1 s f (oneM s p).2.1)):=hq (by
     rw[hit.o,zl1,if_pos hlt])
    clear hit;generalize oneM s p=R at *;obtain⟨k,e,err⟩:=R;simp only at b1 b2 b3 b4;have hbs:=hb.size;by_cases he:err≠0
    ·have hi:items s=pre++[(0,e,e,err)]:=HIT.o.trans (by rw[if_pos he]);have e1:(err !=0)=true:=bne_iff_ne.2 he;have HI2:=hq hi;have HLN:Hq (pre.length<(items s).length):=hq (by rw[hi];simp);clear hi HIT he b4 HT
     gi_wp2_with (refine⟨trivial,?_⟩;gi_at_call 189;refine(callsIn_wide.2 HN.o).mono ?_;rintro e' w2 ⟨rfl,hb2⟩;have hj2:=HJ.o _ _ _ hj hb2;obtain⟨fn,tmps,assign,body,hy,hR⟩:=HY.o pre (0,e,e,err) w2 hj2 HLN.o;have hy':(Instr.yield l #[.agg #[.int .i64 0,.int .i64 (e:Int),.int .i64 (e:Int)],.int .i64 err]).run Tryz.prog w2= .ok (.round l fn tmps assign body) w2:=hy;clear hy)
     refine hR.mono ?_;rintro e' W3 (⟨rfl,hJ3,hk3⟩|⟨rfl,hJx3⟩)
     ·gi_wp2
      refine bodyPost_ret (results_none rfl _ _ _) rfl ?_;exact⟨⟨_,rfl⟩,.inl ⟨_,by rw[HI2.o],hJ3⟩⟩
     ·gi_wp2
      refine bodyPost_ret (results_none rfl _ _ _) rfl ?_;exact⟨⟨_,rfl⟩,.inr ⟨_,by rw[HI2.o];exact List.prefix_refl _,hJx3⟩⟩
    ·have hi:items s=pre++(k,p,e,0)::zl1 s f e:=HIT.o.trans (by rw[if_neg he]);have e1:(err !=0)=false:=by rw[show err=0 by omega];rfl
     have b5:=(b4 (by omega)).1;have HI2:=hq hi;have HLN:Hq (pre.length<(items s).length):=hq (by rw[hi];simp);clear hi HIT he b4
     gi_wp2_with (refine⟨trivial,?_⟩;gi_at_call 189;refine(callsIn_wide.2 HN.o).mono ?_;rintro e' w2 ⟨rfl,hb2⟩;have hj2:=HJ.o _ _ _ hj hb2;obtain⟨fn,tmps,assign,body,hy,hR⟩:=HY.o pre (k,p,e,0) w2 hj2 HLN.o;have hy':(Instr.yield l #[.agg #[.int .i64 (k:Int),.int .i64 (p:Int),.int .i64 (e:Int)],.int .i64 0]).run Tryz.prog w2= .ok (.round l fn tmps assign body) w2:=hy;clear hy)
     have hbw:Below n₀ W w2:=hb.trans (hb2.mono (by omega));have HBW:Hq (w2.heap[Bn]?=W.heap[Bn]?):=hq ((hb2.block Bn (by omega)).trans hbo.o);refine hR.mono ?_;rintro e' W3 (⟨rfl,hJ3,hk3⟩|⟨rfl,hJx3⟩)
     ·gi_wp2
      go_roundw
      case rel=>exact⟨e,f,pre++[(k,p,e,0)],rfl,b2,by omega,hq (by rw[HI2.o];simp),hJ3,hbw.trans hk3.1,hq (hk3.2.trans HBW.o)⟩
      case measure=>simp[intOf];omega
     ·gi_wp2
      refine bodyPost_ret (results_none rfl _ _ _) rfl ?_;exact⟨⟨_,rfl⟩,.inr ⟨_,⟨zl1 s f e,by rw[HI2.o];simp⟩,hJx3⟩⟩
   ·have HI2:Hq (items s=pre):=hq (by rw[hit.o,itemsL_end hlt];simp);clear hit
    gi_wp2
    go_end0
    exact⟨⟨_,rfl⟩,.inl ⟨_,HI2.o.symm,hj⟩⟩
theorem all4_any(s:ByteArray)(w:World):Calls Tryz.prog 151 #[.string s] w fun e w'=>e= .returned (.func (.func 188) #[] #[.pointer (some ⟨w.heap.size,0,none⟩)])/\w'=w.alloc (.cells #[.string s] 9):=by
 have hmf: ∀fn first cap w,(Instr.makeFunc fn first cap).run Tryz.prog w= .ok (.func fn first cap) w:=fun _ _ _ _=>rfl
 go_enter Tryz.func151,Tryz.ntmps151
 go_wp2_with fail
 go_ret
 exact⟨rfl,rfl⟩
theorem abides_below {J:List Item->World->Prop} {B:Nat} (h:AbidesFrom B J): ∀pre A C,J pre A->Below A.heap.size A C->J pre C:=
 fun pre A C hj hb=>h pre A C none hj ⟨hb.os,hb.tape,hb.output,hb.size,fun k hk _=>hb.block k hk⟩ (fun r e=>by cases e)
theorem all4_stops(Bn n₀:Nat)(s:ByteArray)(hs:s.size<=maxLen)(w:World)(hBn:w.cell? ⟨Bn,0,none⟩=some (.string s))(hBl:Bn<w.heap.size)(hT: ∀A,Below n₀ w A->tabs A)(hn₀:n₀<=w.heap.size):
 SeqStopsK Fence.wide 9 Tryz.prog 188 #[.pointer (some ⟨Bn,0,none⟩)] itemV (KpB n₀ Bn) (fun ys=>ys=items s) (fun pre=>pre<+:items s) (items s).length w:=
 fun l J Jx W hW hJ _ hY h0=>all4_one l Bn n₀ s hs J Jx hY W (abides_below hJ) ((hW.cell (p:=⟨Bn,0,none⟩) hBl).trans hBn) (by have:=hW.size;omega) (fun A hA=>hT A ((hW.mono hn₀).trans hA)) (by have:=hW.size;omega) h0
end Go.Proofs.YtkafjblfjdpdaaaGreatDoor
namespace Go.Proofs.YtkafjblfjdpdaaaGreatDoor
open Go.RowKit Go.Shelf
attribute [local go_sem] Oper.semAt_some
def zd7(l:List Tok):List Value:=l.flatMap fun x=> [.int .i64 (x.1:Int),.int .i64 (x.2.1:Int),.int .i64 (x.2.2:Int)]
theorem zr1(l:List Tok)(x:Tok):zd7 (l++[x])=zd7 l++[.int .i64 (x.1:Int),.int .i64 (x.2.1:Int),.int .i64 (x.2.2:Int)]:=by simp[zd7]
theorem infoTok:(Tryz.prog.info? 131).map (fun i=>(i.zero,i.size,i.bytes))=some (some (.agg #[.int .i64 0,.int .i64 0,.int .i64 0]),3,24):=by kernel_rfl
def zR0(r:List Tok×Nat×Int)(w:World)(e:Ending)(w':World):Prop:=
 ∃v,e= .returned (.tuple #[v,.int .i64 (r.2.1:Int),.int .i64 r.2.2])/\w'.ownsRow w.heap.size 131 3 v r.1.length (zd7 r.1)/\Below w.heap.size w w'
def tokOf(x:Item):Tok:=(x.1,x.2.1,x.2.2.1)
theorem zr7(s:ByteArray): ∀(f p:Nat),zl1 s f p=(zk8 s f p).1.map (fun x=>(x.1,x.2.1,x.2.2,0))++(if (zk8 s f p).2.2≠0 then [(0,(zk8 s f p).2.1,(zk8 s f p).2.1,(zk8 s f p).2.2)] else [])
 |0,p=>by simp[zl1,zk8]
 |f+1,p=>by
  by_cases hp:p<s.size
  ·by_cases he:(oneM s p).2.2≠0
   ·rw[zl1,if_pos hp,if_pos he,zk8,if_pos hp,if_pos he];simp only[List.map_nil,List.nil_append];rw[if_pos he]
   ·rw[zl1,if_pos hp,if_neg he,zk8,if_pos hp,if_neg he,zr7 s f];rfl
  ·rw[zl1,if_neg hp,zk8,if_neg hp];simp
theorem items_ok {s:ByteArray} (h: ∀x∈items s,x.2.2.2=0):zd0 s=((items s).map tokOf,s.size,0):=by
 unfold zd0 items at *;by_cases hl:65536<s.size
 ·rw[if_pos hl]at h;have:=h (0,0,0,3) (by simp);cases this
 ·rw[if_neg hl]at h ⊢;rw[if_neg hl,zr7]at *;unfold zv3;rw[zu0];simp only[List.nil_append];by_cases he:(zk8 s s.size 0).2.2≠0
  ·rw[if_pos he]at h;exact absurd (h (0,(zk8 s s.size 0).2.1,(zk8 s s.size 0).2.1,(zk8 s s.size 0).2.2) (by simp)) he
  ·rw[if_neg he,if_neg he];simp only[List.append_nil,List.map_map,Prod.mk.injEq,and_true];exact(List.map_id' _).symm
theorem items_bad {s:ByteArray} {pre:List Item} {x:Item} (h:pre++[x]<+:items s)(hx:x.2.2.2≠0):zd0 s=([],x.2.1,x.2.2.2):=by
 have hm:x∈items s:=h.subset (by simp);unfold zd0 items at *;by_cases hl:65536<s.size
 ·rw[if_pos hl]at hm ⊢;rw[List.mem_singleton.1 hm]
 ·rw[if_neg hl]at hm ⊢;rw[zr7]at hm;unfold zv3;rw[zu0];simp only;rcases List.mem_append.1 hm with h1|h1
  ·obtain ⟨y,_,rfl⟩:=List.mem_map.1 h1;exact absurd rfl hx
  ·by_cases he:(zk8 s s.size 0).2.2≠0
   ·rw[if_pos he]at h1 ⊢;rw[List.mem_singleton.1 h1]
   ·rw[if_neg he]at h1;cases h1
theorem zM2(s:ByteArray): ∀(f p:Nat),p<=s.size->(zl1 s f p).length<=s.size-p
 |0,p,_=>Nat.zero_le _
 |f+1,p,hps=>by
  by_cases hp:p<s.size
  ·obtain ⟨b1,b2,b3,b4⟩:=zA4 s p hp;by_cases he:(oneM s p).2.2≠0
   ·rw[zl1,if_pos hp,if_pos he];simp;omega
   ·have:=zM2 s f (oneM s p).2.1 b2;have b5:=(b4 (by omega)).1;rw[zl1,if_pos hp,if_neg he,List.length_cons];omega
  ·rw[zl1,if_neg hp];simp
theorem items_len(s:ByteArray):(items s).length<=65537:=by
 unfold items;split
 ·simp
 ·have:=zM2 s s.size 0 (Nat.zero_le _);omega
theorem zh0 {A B:World} {b:Nat} {t:TypeId} {v:Value} {row:Option Nat} (h:Boxed A b t v)(hg:A.grownBy B row)(hr: ∀r,row=some r-> ∃o:Obj,A.heap[r]?=some o/\o.isCells=false):Boxed B b t v:=
 boxed_own b t (fun (_:Unit)=>v) () A B row h hg hr
theorem whole_grown {A B:World} {b:Nat} {t:TypeId} {cs:Array Value} {row:Option Nat} (h:Whole A b t cs)(hg:A.grownBy B row)(hr: ∀r,row=some r-> ∃o:Obj,A.heap[r]?=some o/\o.isCells=false):Whole B b t cs:=
 (hg.block b h.lt (fun e=>by obtain⟨o,ho,hc⟩:=hr b e.symm;rw[show A.heap[b]?=_ from h]at ho;cases ho;cases hc)).trans h
theorem tokens4_any(s:ByteArray)(w:World)(hT:tabs w)(hs:s.size<=maxLen):Calls Tryz.prog 112 #[.string s] w (zR0 (zd0 s) w):=by
 obtain⟨i0,hi,hz0,hz1,hz2⟩:=info_parts infoTok;have HT:=hq hT;have hsb:s.size<=9223372036854775807:=by unfold maxLen at hs;omega
 refine(callsIn_wide (n:=10)).1 ?_;refine callsIn_of_wp_marks Tryz.func112 rfl trivial ?_ rfl;simp only[Tryz.ntmps112,List.size_toArray,List.length_cons,List.length_nil,Nat.reduceAdd,Nat.reduceSub,Array.replicate_succ,Array.replicate_zero,List.push_toArray,List.append_toArray,List.nil_append,List.cons_append]
 gi_wp2_with (refine⟨trivial,?_⟩;gi_at_call 151;refine(callsIn_wide.2 (all4_any s _)).mono ?_;rintro e w' ⟨rfl,rfl⟩)
 have b2:=((((Boxed.new w 123 (.slice none 0 0)).alloc (.cells #[.int .i64 0] 3)).alloc (.cells #[.int .i64 0] 27)).alloc (.cells #[.slice none 0 0] 123)).alloc (.cells #[.string s] 9);have b3:=(((Boxed.new (w.alloc (.cells #[.slice none 0 0] 123)) 3 (.int .i64 0)).alloc (.cells #[.int .i64 0] 27)).alloc (.cells #[.slice none 0 0] 123)).alloc (.cells #[.string s] 9);have b4:=((Boxed.new ((w.alloc (.cells #[.slice none 0 0] 123)).alloc (.cells #[.int .i64 0] 3)) 27 (.int .i64 0)).alloc (.cells #[.slice none 0 0] 123)).alloc (.cells #[.string s] 9);have b5:=(Boxed.new (((w.alloc (.cells #[.slice none 0 0] 123)).alloc (.cells #[.int .i64 0] 3)).alloc (.cells #[.int .i64 0] 27)) 123 (.slice none 0 0)).alloc (.cells #[.string s] 9);have b6:=Boxed.new ((((w.alloc (.cells #[.slice none 0 0] 123)).alloc (.cells #[.int .i64 0] 3)).alloc (.cells #[.int .i64 0] 27)).alloc (.cells #[.slice none 0 0] 123)) 9 (.string s);have hB0:=((((za0 w (.cells #[.slice none 0 0] 123)).alloc (by simp) (.cells #[.int .i64 0] 3)).alloc (by simp;omega) (.cells #[.int .i64 0] 27)).alloc (by simp;omega) (.cells #[.slice none 0 0] 123)).alloc (by simp;omega) (.cells #[.string s] 9);have hsz:(((((w.alloc (.cells #[.slice none 0 0] 123)).alloc (.cells #[.int .i64 0] 3)).alloc (.cells #[.int .i64 0] 27)).alloc (.cells #[.slice none 0 0] 123)).alloc (.cells #[.string s] 9)).heap.size=w.heap.size+5:=by simp
 simp only[World.size_alloc]at b3 b4 b5 b6;obtain⟨W0,hW0⟩: ∃W0,((((w.alloc (.cells #[.slice none 0 0] 123)).alloc (.cells #[.int .i64 0] 3)).alloc (.cells #[.int .i64 0] 27)).alloc (.cells #[.slice none 0 0] 123)).alloc (.cells #[.string s] 9)=W0:=⟨_,rfl⟩;rw[hW0]at b2 b3 b4 b5 b6 hB0 hsz ⊢;clear hW0;generalize hn₀:w.heap.size=n₀ at *;refine wpIn_rangeFunc_ownH rfl (by omega) (gf:=188) (lb:= #[.pointer (some ⟨n₀+1+1+1+1,0,none⟩)]) rfl trivial (enters_of Tryz.func188 (by kernel_rfl) rfl)
  (all4_stops (n₀+1+1+1+1) n₀ s hs W0 b6.cell b6.lt (fun A hA=>zi5 HT.o (by rw[hn₀];exact hB0.trans hA)) (by omega))
  (fun h k=>⟨h.1.trans k.1,k.2.trans h.2⟩)
  (fun W l o o' hl ho h1 h2=>⟨belowK_b (w:=W0) (by omega) W l o o' hl ho h1 h2,World.putObj_heap_other (by omega)⟩)
  (Below.refl _ _) (fun _=>rfl)
  (fun pre W=>((∃v,Boxed W (n₀+1+1+1) 123 v/\W.ownsRow n₀ 131 3 v pre.length (zd7 (pre.map tokOf))/\True)/\(Boxed W n₀ 123 (.slice none 0 0)/\Boxed W (n₀+1) 3 (.int .i64 0)/\Boxed W (n₀+1+1) 27 (.int .i64 0)/\Boxed W (n₀+1+1+1+1) 9 (.string s))/\(∀x∈pre,x.2.2.2=0))/\Below n₀ w W)
  (fun c pre W=>(c= .ret/\ ∃pre' x,pre=pre'++[x]/\x.2.2.2≠0/\Boxed W n₀ 123 (.slice none 0 0)/\Boxed W (n₀+1) 3 (.int .i64 (x.2.1:Int))/\Boxed W (n₀+1+1) 27 (.int .i64 x.2.2.2))/\Below n₀ w W)
  ?own ?ownx
  ⟨⟨⟨_,b5,World.ownsRow_nil _ _ _ _,trivial⟩,⟨b2,b3,b4,b6⟩,fun x hx=>by cases hx⟩,hB0⟩
  (fun x a' W=> ∃Bx,n₀+1+1+1+1<Bx/\Whole W Bx 131 #[.int .i64 (x.1:Int),.int .i64 (x.2.1:Int),.int .i64 (x.2.2.1:Int)]/\a'= {tmps:= #[.string s,undef,.pointer (some ⟨n₀,0,none⟩),.pointer (some ⟨n₀+1,0,none⟩),.pointer (some ⟨n₀+1+1,0,none⟩),.pointer (some ⟨n₀+1+1+1,0,none⟩),.pointer (some ⟨Bx,0,none⟩),.int .i64 x.2.2.2,.string s,.func (.func 188) #[] #[.pointer (some ⟨n₀+1+1+1+1,0,none⟩)],tokV x.1 x.2.1 x.2.2.1,.int .i64 x.2.2.2,undef,undef,undef,undef,undef,undef,undef,undef,undef,undef,undef,undef,undef],defers:=[]})
  ?ownA ?assign ?body ?done ?stop
 case own=>
  exact OwnFrom.and (OwnFrom.and (Own.from (holdsRow_own (β:=List Item) n₀ (n₀+1+1+1) 123 131 3 (fun pre=>pre.length) (fun pre=>zd7 (pre.map tokOf)) (fun _ _=>True)) _)
   (OwnFrom.and (OwnFrom.and (Own.from (boxed_own _ _ (fun _=>Value.slice none 0 0)) _) (OwnFrom.and (Own.from (boxed_own _ _ (fun _=>Value.int .i64 0)) _) (OwnFrom.and (Own.from (boxed_own _ _ (fun _=>Value.int .i64 0)) _) (Own.from (boxed_own _ _ (fun _=>Value.string s)) _)))) (ownFrom_pure _ _)))
   (ownFrom_below (by omega) (by omega))
 case ownx=>
  rintro c pre A B row ⟨⟨rfl,pre',x,rfl,hx,d2,d3,d4⟩,hb⟩ hg hr;have hr':=fun r e=>(hr r e).2
  exact⟨⟨rfl,pre',x,rfl,hx,zh0 d2 hg hr',zh0 d3 hg hr',zh0 d4 hg hr'⟩,ownFrom_below (β:=Unit) (n₀:=n₀) (B:=W0.heap.size) (by omega) (by omega) () A B row hb hg hr⟩
 case ownA=>
  rintro x a' _ A B row ⟨Bx,h1,h2,h3⟩ hg hr;exact⟨Bx,h1,whole_grown h2 hg (fun r e=>(hr r e).2),h3⟩
 case assign=>
  rintro l pre x W K ⟨⟨⟨v,hv,hrow,_⟩,⟨c2,c3,c4,c6⟩,hz⟩,hB⟩ hK;have hWs:n₀<=W.heap.size:=by have:=hB.size;omega
  have h6:=c6.lt
  gi_wp2
  exact hK _ _ ((KeepsOthers.alloc _ _).from _) ⟨(Below.refl _ W).alloc hWs _,Below.heap_alloc W _ _ h6⟩ ⟨⟨⟨v,hv.alloc _,hrow.alloc _,trivial⟩,⟨c2.alloc _,c3.alloc _,c4.alloc _,c6.alloc _⟩,hz⟩,hB.alloc hWs _⟩ ⟨W.heap.size,h6,Whole.made W _ _,rfl⟩
 case body=>
  rintro l pre x a' W hl hr ⟨⟨⟨v,hv,hrow,_⟩,⟨c2,c3,c4,c6⟩,hz⟩,hB⟩ ⟨Bx,hBx,bX,rfl⟩ hlt;obtain⟨k,a,b,err⟩:=x;simp only at bX;have hWs:n₀<=W.heap.size:=by have:=hB.size;omega
  have hcv:=hv.cell;have x0:=bX.at_ 0;have x1:=bX.at_ 1;have x2:=bX.at_ 2;by_cases he:err≠0
  ·have e1:(err !=0)=true:=bne_iff_ne.2 he;have d2:=c2.cell;have d3:=c3.cell;have d4:=c4.cell;have f2:=c2.frozen;have f3:=c3.frozen;have f4:=c4.frozen;have hmx:Tryz.prog.follows .mixedOrders=true:=by kernel_rfl
   gi_wp2
   gi_region_o
   all_goals gi_wp2
   all_goals (try go_bits)
   all_goals exact⟨((((KeepsOthers.setCell _ _ _).trans (KeepsOthers.setCell _ _ _)).trans (KeepsOthers.setCell _ _ _)).trans (KeepsOthers.drew _)).from _,
    ⟨rfl,pre,(k,a,b,err),rfl,he,((c2.set _).other (by omega) _).other (by omega) _,((c3.other (by omega) _).set _).other (by omega) _,((c4.other (by omega) _).other (by omega) _).set _⟩,
    (((hB.setCell (p:=⟨n₀,0,none⟩) (Nat.le_refl _) _).setCell (p:=⟨n₀+1,0,none⟩) (Nat.le_succ _) _).setCell (p:=⟨n₀+1+1,0,none⟩) (by simp only;omega) _).drew⟩
  ·have he0:err=0:=by omega
   have e1:(err !=0)=false:=by rw[he0];rfl
   have hpl:pre.length<=1099511627776:=by have:=items_len s;omega
   clear he
   gi_wp2_with (gi_at_builtin;refine wpListIn_append_own _ rfl _ _ 123 rfl n₀ 131 i0 (.agg #[.int .i64 0,.int .i64 0,.int .i64 0]) 3 24 Tryz.underlying123 hi hz0 hz1 hz2 rfl (by decide) _ _ _ rfl (hrow.alloc _) ⟨W.heap.size,0,none⟩ 1 1 [.int .i64 (k:Int),.int .i64 (a:Int),.int .i64 (b:Int)] rfl rfl (ze0 _ [.int .i64 (k:Int),.int .i64 (a:Int),.int .i64 (b:Int)] _) (zK3 _ _ _) (by unfold maxLen;omega) (by omega) (by rw[World.size_alloc];omega) ?_;intro v' w1 hown' hgrow _;obtain⟨g',cap',rfl⟩:=ownsRow_succ hown';obtain⟨hv1,hv2,hr2,hk2,hb2⟩:=hv.appended (by decide) hrow hWs (by omega) hown' hgrow;have hc1:=hv1.cell;have hf1:=hv1.frozen)
   have g1:zd7 ((pre++[(k,a,b,err)]).map tokOf)=zd7 (pre.map tokOf)++[.int .i64 (k:Int),.int .i64 (a:Int),.int .i64 (b:Int)]:=by rw[List.map_append];exact zr1 _ _
   have g2:(pre++[(k,a,b,err)]).length=pre.length+1:=by simp
   have d2:=(((c2.alloc _).kept hgrow (c2.not_row (by decide) hrow)).other (B':=n₀+1+1+1) (by omega) (.slice (some ⟨g',0,none⟩) (pre.length+1) cap'));have d3:=(((c3.alloc _).kept hgrow (c3.not_row (by decide) hrow)).other (B':=n₀+1+1+1) (by omega) (.slice (some ⟨g',0,none⟩) (pre.length+1) cap'));have d4:=(((c4.alloc _).kept hgrow (c4.not_row (by decide) hrow)).other (B':=n₀+1+1+1) (by omega) (.slice (some ⟨g',0,none⟩) (pre.length+1) cap'));have d6:=(((c6.alloc _).kept hgrow (c6.not_row (by decide) hrow)).other (B':=n₀+1+1+1) (by omega) (.slice (some ⟨g',0,none⟩) (pre.length+1) cap'));refine⟨hk2.from _,⟨hb2,Eq.trans d6 (Eq.symm c6)⟩,⟨⟨_,hv2,?_,trivial⟩,⟨d2,d3,d4,d6⟩,fun y hy=>(List.mem_append.1 hy).elim (hz y) (fun h=>by rw[List.mem_singleton.1 h];exact he0)⟩,hB.trans hb2⟩;rw[g1,g2];exact hr2
 case done=>
  rintro D xs W hD rfl ⟨⟨⟨v,hv,hrow,_⟩,⟨c2,c3,c4,c6⟩,hz⟩,hB⟩ hK;obtain⟨vb,vn,vc,rfl⟩:=row_form hrow;have hcv:=hv.cell;have d2:=c2.cell;have d3:=c3.cell;have d4:=c4.cell;have f2:=c2.frozen;have f3:=c3.frozen;have f4:=c4.frozen
  gi_wp2
  have hK2:(((W.setCell ⟨n₀,0,none⟩ (.slice vb vn vc)).setCell ⟨n₀+1,0,none⟩ (.int .i64 (s.size:Int))).setCell ⟨n₀+1+1,0,none⟩ (.int .i64 0)).heap[D]?=some (.deferred (some [])):=(((KeepsOthers.setCell W ⟨n₀,0,none⟩ (.slice vb vn vc)).trans (KeepsOthers.setCell _ ⟨n₀+1,0,none⟩ (.int .i64 (s.size:Int)))).trans (KeepsOthers.setCell _ ⟨n₀+1+1,0,none⟩ (.int .i64 0))).same D _ hK rfl;have e2:=((c2.set (.slice vb vn vc)).other (B':=n₀+1) (by omega) (.int .i64 (s.size:Int))).other (B':=n₀+1+1) (by omega) (.int .i64 0);have e3:=((c3.other (B':=n₀) (by omega) (.slice vb vn vc)).set (.int .i64 (s.size:Int))).other (B':=n₀+1+1) (by omega) (.int .i64 0);have e4:=((c4.other (B':=n₀) (by omega) (.slice vb vn vc)).other (B':=n₀+1) (by omega) (.int .i64 (s.size:Int))).set (.int .i64 0);have hB2:=((hB.setCell (p:=⟨n₀,0,none⟩) (Nat.le_refl _) (.slice vb vn vc)).setCell (p:=⟨n₀+1,0,none⟩) (Nat.le_succ _) (.int .i64 (s.size:Int))).setCell (p:=⟨n₀+1+1,0,none⟩) (by simp only;omega) (.int .i64 0);have hr2:=((hrow.kept (grownBy_setCell' W n₀ (.slice vb vn vc)) (.inr (c2.not_row (by decide) hrow).symm)));have hr3:=hr2.kept (grownBy_setCell' _ (n₀+1) (.int .i64 (s.size:Int))) (.inr ((c3.other (B':=n₀) (by omega) (.slice vb vn vc)).not_row (by decide) hr2).symm);have hr4:=hr3.kept (grownBy_setCell' _ (n₀+1+1) (.int .i64 0)) (.inr (((c4.other (B':=n₀) (by omega) (.slice vb vn vc)).other (B':=n₀+1) (by omega) (.int .i64 (s.size:Int))).not_row (by decide) hr3).symm);have hTM:=items_ok hz;generalize (((W.setCell ⟨n₀,0,none⟩ (.slice vb vn vc)).setCell ⟨n₀+1,0,none⟩ (.int .i64 (s.size:Int))).setCell ⟨n₀+1+1,0,none⟩ (.int .i64 0))=W2 at *;have kp: ∀r,some D=some r-> ∃o:Obj,W2.heap[r]?=some o/\o.isCells=false:=fun r e=>by cases e;exact⟨_,hK2,rfl⟩
  have k2:=(zh0 e2 (grownBy_putObj' W2 D (.deferred none)) kp).cell;have k3:=(zh0 e3 (grownBy_putObj' W2 D (.deferred none)) kp).cell;have k4:=(zh0 e4 (grownBy_putObj' W2 D (.deferred none)) kp).cell;refine⟨by simp,.inl ⟨_,_,rfl,run_takeDeferred hK2,?_⟩⟩;refine⟨.tuple #[.slice vb vn vc,.int .i64 (s.size:Int),.int .i64 0],by simp[results,Tryz.results112,go_sem,k2,k3,k4],.slice vb vn vc,?_,?_,?_⟩
  ·rw[hTM]
  ·rw[hTM];have:=ownsRow_putObj hr4 (.deferred none) hK2 rfl;simpa [hn₀] using this
  ·rw[hn₀];exact hB2.trans (belowK_b (w:=w) (by omega) W2 D _ _ (by omega) hK2 rfl rfl)
 case stop=>
  rintro D c pre W hD hsp ⟨⟨rfl,pre',x,rfl,hx,c2,c3,c4⟩,hB⟩ hK
  gi_wp2
  have kp: ∀r,some D=some r-> ∃o:Obj,W.heap[r]?=some o/\o.isCells=false:=fun r e=>by cases e;exact⟨_,hK,rfl⟩
  have k2:=(zh0 c2 (grownBy_putObj' W D (.deferred none)) kp).cell;have k3:=(zh0 c3 (grownBy_putObj' W D (.deferred none)) kp).cell;have k4:=(zh0 c4 (grownBy_putObj' W D (.deferred none)) kp).cell;have hTM:=items_bad hsp hx;refine⟨by simp,.inl ⟨_,_,rfl,run_takeDeferred hK,?_⟩⟩;refine⟨.tuple #[.slice none 0 0,.int .i64 (x.2.1:Int),.int .i64 x.2.2.2],by simp[results,Tryz.results112,go_sem,k2,k3,k4],.slice none 0 0,?_,?_,?_⟩
  ·rw[hTM]
  ·rw[hTM];exact World.ownsRow_nil _ _ _ _
  ·rw[hn₀];exact hB.trans (belowK_b (w:=w) (by omega) W D _ _ (by omega) hK rfl rfl)
theorem zE4(l:List Tok): ∀(i:Nat) (x:Tok),l[i]?=some x->(zd7 l)[i*3]?=some (.int .i64 (x.1:Int))/\(zd7 l)[i*3+1]?=some (.int .i64 (x.2.1:Int))/\(zd7 l)[i*3+2]?=some (.int .i64 (x.2.2:Int)):=by
 induction l with
 |nil=>intro i x h;simp at h
 |cons y l ih=>
  intro i x h;cases i with
  |zero=>simp at h;subst h;simp[zd7]
  |succ i=>
   simp only[List.getElem?_cons_succ]at h;have:=ih i x h;rw[show (i+1)*3=i*3+1+1+1 by omega];simpa [zd7] using this
theorem toks_cell {w:World} {B:Nat} {v:Value} {l:List Tok} (h:w.ownsRow B 131 3 v l.length (zd7 l))(hl:0<l.length):
 ∃g cap,v= .slice (some ⟨g,0,none⟩) l.length cap/\B<=g/\g<w.heap.size/\l.length<=cap/\cap<=maxLen/\(∀o,w.frozen? ⟨g,o,none⟩=false)/\
  ∀(i:Nat) (x:Tok),l[i]?=some x->w.cell? ⟨g,i*3,none⟩=some (.int .i64 (x.1:Int))/\w.cell? ⟨g,i*3+1,none⟩=some (.int .i64 (x.2.1:Int))/\w.cell? ⟨g,i*3+2,none⟩=some (.int .i64 (x.2.2:Int)):=by
 rcases h.2 with ⟨_,h0⟩|⟨g,cap,cur,hv,hg,hh,hc,hm,_⟩
 ·omega
 ·refine ⟨g,cap,hv,hg,(Array.getElem?_eq_some_iff.1 hh).1,hc,hm,fun o=>frozen_of_row w g o cur _ hh,fun i x hi=> ?_⟩;have hcl:=h.cells (g:=g) (by rw[hv];rfl);have hs:=zE4 l i x hi;have e1:(⟨g,0,none⟩:Addr).add (i*3)=⟨g,i*3,none⟩:=by simp[Addr.add];omega
  have e2:(⟨g,0,none⟩:Addr).add (i*3+1)=⟨g,i*3+1,none⟩:=by simp[Addr.add]
  have e3:(⟨g,0,none⟩:Addr).add (i*3+2)=⟨g,i*3+2,none⟩:=by simp[Addr.add]
  refine⟨?_,?_,?_⟩
  ·rw[←e1];exact hcl _ _ hs.1
  ·rw[←e2];exact hcl _ _ hs.2.1
  ·rw[←e3];exact hcl _ _ hs.2.2
theorem tokensM_len(s:ByteArray):(zd0 s).1.length<=65537/\(zd0 s).2.1<=s.size:=by
 by_cases h: ∀x∈items s,x.2.2.2=0
 ·rw[items_ok h];exact⟨by rw[List.length_map];exact items_len s,Nat.le_refl _⟩
 ·unfold zd0;split
  ·exact ⟨Nat.zero_le _,Nat.zero_le _⟩
  ·have:=(zw3 s s.size 0 (Nat.zero_le _) (by omega)).1;unfold zv3;rw[zu0];simp only[List.nil_append];split
   ·exact ⟨Nat.zero_le _,this⟩
   ·rename_i h1 h2;refine absurd (fun x hx=> ?_) h;unfold items at hx;rw[if_neg h1,zr7,if_neg h2,List.append_nil]at hx;obtain⟨y,_,rfl⟩:=List.mem_map.1 hx;rfl
def zJ(s:ByteArray)(a b:Int):ByteArray×Bool:=if a<0\/b<a\/(s.size:Int)<b then(⟨#[]⟩,false) else(s.extract a.toNat b.toNat,true)
def TextPost(r:ByteArray×Bool)(w:World)(e:Ending)(w':World):Prop:=e= .returned (.tuple #[.string r.1,.bool r.2])/\Below w.heap.size w w'
theorem text4_any(s:ByteArray)(k a b:Int)(w:World)(_hs:s.size<=maxLen)(ha:-9223372036854775808<=a/\a<=9223372036854775807)(hb:-9223372036854775808<=b/\b<=9223372036854775807):
 Calls Tryz.prog 194 #[.string s,.agg #[.int .i64 k,.int .i64 a,.int .i64 b]] w (TextPost (zJ s a b) w):=by
 unfold maxLen at _hs;obtain⟨ha1,ha2⟩:=ha;obtain⟨hb1,hb2⟩:=hb;have HN:Hq (zJ s a b=if a<0\/b<a\/(s.size:Int)<b then(⟨#[]⟩,false) else(s.extract a.toNat b.toNat,true)):=hq rfl;have hal:=za0 w (.cells #[.int .i64 k,.int .i64 a,.int .i64 b] 131);generalize zJ s a b=R at *;by_cases h1:a<0
 ·have HN2:=hq (HN.o.trans (if_pos (.inl h1)));clear HN;go_enter Tryz.func194,Tryz.ntmps194
  go_wp2_with fail
  go_ret2
  exact⟨by rw[HN2.o];rfl,hal⟩
 ·by_cases h2:b<a
  ·have HN2:=hq (HN.o.trans (if_pos (.inr (.inl h2))));clear HN;go_enter Tryz.func194,Tryz.ntmps194
   go_wp2_with fail
   go_ret2
   exact⟨by rw[HN2.o];rfl,hal⟩
  ·by_cases h3:(s.size:Int)<b
   ·have HN2:=hq (HN.o.trans (if_pos (.inr (.inr h3))));clear HN;go_enter Tryz.func194,Tryz.ntmps194
    go_wp2_with fail
    go_ret2
    exact⟨by rw[HN2.o];rfl,hal⟩
   ·have HN2:=hq (HN.o.trans (if_neg (by omega)));clear HN;go_enter Tryz.func194,Tryz.ntmps194
    go_wp2_with fail
    go_ret2
    exact⟨by rw[HN2.o];rfl,hal⟩
theorem zr0 {s:ByteArray} {x:Tok} (h:x∈(zd0 s).1):x.2.1<x.2.2/\x.2.2<=s.size/\oneM s x.2.1=(x.1,x.2.2,0):=by
 unfold zd0 at h;split at h
 ·cases h
 ·split at h
  ·cases h
  ·unfold zv3 at h;rw[zu0]at h;simp only[List.nil_append]at h;exact toksL_mem s s.size 0 (Nat.zero_le _) x h
end Go.Proofs.YtkafjblfjdpdaaaGreatDoor
