/-
  WALKS: number.Right.
  WALKS: number.Parse.
  PLAIN MATHEMATICS: the document's parts of a literal and its Parse are those of the program.
  PLAIN MATHEMATICS: the document's Parse answers what the program's answers.
  WALKS: number.sign, rank, size, Compare.
  WALKS: the document's digits.
  WALKS: the document's own answers of layer 2: digits, nought, Right, size, Compare.
  WALKS: the document's own size and Compare of layer 2.
  PLAIN MATHEMATICS: the document's Compare of two right numbers is the program's.
  PLAIN MATHEMATICS: Compare of right numbers is the order of what they are, times 10 ^ N; so it is an order.
  PLAIN MATHEMATICS: an int as a number: it is right, and its order is that of ints.
  PLAIN MATHEMATICS: a number as an int; what strconv.ParseInt answers of digits; Parse of an int's text.
  WALKS: number.Text, number.Of, over what Itoa answers.
  PLAIN MATHEMATICS: a right number's text is parsed as that number; an int's number is that int.
-/
import Derived.Test.YtkafjblfjdpdaaaGreatDoorNumSp
import Derived.Deep.RegionHeld3
import Derived.Lib.AppendIntMem
set_option maxHeartbeats 2000000
set_option maxRecDepth 1000000
namespace Go.Proofs.YtkafjblfjdpdaaaGreatDoor
open Go.RowKit
def Dec.bad(D:Bs):Prop:=D.length<1\/1000<D.length\/D.all za7=false
instance instDecNumBad (D:Bs):Decidable (Dec.bad D):=by unfold Dec.bad;infer_instance
def Dec.nought0(D:Bs):Prop:=D.head?=some 48\/D.getLast?=some 48
instance instDecNumNought (D:Bs):Decidable (Dec.nought0 D):=by unfold Dec.nought0;infer_instance
def Dec.right(d:Dec):Bool:=
 if d= .zero then true else if Dec.bad d.digits then false else if Dec.nought0 d.digits then false else decide (-1000000<=d.exp/\d.exp<=1000000)
theorem nd_len(l:Bs):nd l=l.length↔l.all za7=true:=by
 constructor
 ·intro h;have h2:l.takeWhile za7=l:=(List.takeWhile_prefix za7).eq_of_length h;have h3: ∀m:Bs,m.takeWhile za7=m->m.all za7=true:=by
   intro m;induction m with
   |nil=>intro _;rfl
   |cons c m ih=>
    intro hm;rw[List.takeWhile_cons]at hm;split at hm
    ·rename_i hc;simp only[List.cons.injEq,true_and]at hm;rw[List.all_cons,hc,ih hm];rfl
    ·cases hm
  exact h3 l h2
 ·intro h;unfold nd;have h2:l.takeWhile za7=l:=by
   induction l with
   |nil=>rfl
   |cons c l ih=>
    simp only[List.all_cons,Bool.and_eq_true]at h;rw[List.takeWhile_cons,if_pos h.1,ih h.2]
  rw[h2]
theorem eq_num0(neg:Bool)(D:Bs)(E:Int): ∀W:World,(Op.equalIn 10000 59 (.agg #[.bool neg,.string (st D),.int .i64 E]) (.agg #[.bool false,.string ⟨#[]⟩,.int .i64 0])).run Tryz.prog W= .ok (decide (neg=false/\D=[]/\E=0)) W:=by
 intro W;have h23:=Tryz.underlying59;have hst:Tryz.prog.stoodInHeld 59=false:=by kernel_rfl
 cases neg<;>by_cases hD:D=[]<;>by_cases hE:E=0
 all_goals (try subst hD)
 all_goals (try subst hE)
 all_goals go_simp
theorem eq_num(neg:Bool)(D:Bs)(E:Int): ∀W:World,(Op.equalIn 10000 59 (.agg #[.bool neg,.string (st D),.int .i64 E]) (.agg #[.bool false,.string ⟨#[]⟩,.int .i64 0])).run Tryz.prog W= .ok (decide (Dec.mk neg D E= .zero)) W:=by
 intro W;rw[eq_num0]
 congr 1
 refine decide_eq_decide.2 ⟨fun ⟨h1,h2,h3⟩=>by rw[h1,h2,h3];rfl,fun h=>⟨congrArg Dec.neg h,congrArg Dec.digits h,congrArg Dec.exp h⟩⟩
theorem zG(neg:Bool)(D:Bs)(E:Int)(w:World)(hD:D.length<=1099511627776)(hE:-9223372036854775808<=E/\E<=9223372036854775807):
 Calls Tryz.prog 83 #[.agg #[.bool neg,.string (st D),.int .i64 E]] w fun e w'=>e= .returned (.bool (Dec.right ⟨neg,D,E⟩))/\Below w.heap.size w w':=by
 obtain⟨hE1,hE2⟩:=hE;generalize hR:Dec.right ⟨neg,D,E⟩=R;have HR:=hq hR;clear hR;have HZ:Hq ((st D).size<=maxLen):=hq (by rw[za8];unfold maxLen;omega);go_enter Tryz.func83,Tryz.ntmps83
 go_upto_region 1 with fail
 have hW:=Whole.made w 59 #[.bool neg,.string (st D),.int .i64 E];have hb:=za0 w (.cells #[.bool neg,.string (st D),.int .i64 E] 59);generalize hWW:w.alloc (.cells #[.bool neg,.string (st D),.int .i64 E] 59)=W at *;clear hWW;obtain⟨c0,c1,c2⟩:=za2 hW;have heq:=eq_num neg D E;generalize hB:decide (Dec.mk neg D E= .zero)=B at heq;have HB:=hq hB;clear hB
 go_cut [5] (fun c wx=>c= .bool B/\wx=W)
 case first=>
  go_wp2_with fail
  go_meet
  exact⟨rfl,rfl⟩
 case rest=>
  obtain⟨rfl,rfl⟩:=hcut;clear heq;rw[←HB.o];clear HB;by_cases hz:Dec.mk neg D E= .zero
  ·have HT:Hq (R=true):=hq (by rw[←HR.o];unfold Dec.right;rw[if_pos hz]);rw[decide_eq_true hz];clear HR hz;go_wp2_with fail
   go_ret
   exact⟨by rw[HT.o];rfl,hb⟩
  ·rw[decide_eq_false hz];have HR2:Hq (R=if Dec.bad D then false else if Dec.nought0 D then false else decide (-1000000<=E/\E<=1000000)):=hq (by rw[←HR.o];unfold Dec.right;rw[if_neg hz]);clear HR hz;go_upto_region 3 with fail
   go_cut [24] (fun c wx=>c= .bool (decide (Dec.bad D))/\Below w.heap.size w wx/\Whole wx w.heap.size 59 #[.bool neg,.string (st D),.int .i64 E])
   case first=>
    by_cases h1:D.length<1
    ·have hh:Hq (decide (Dec.bad D)=true):=hq (decide_eq_true (.inl h1));have g1:decide (((D.length:Nat):Int)<1)=true:=decide_eq_true (by omega)
     go_region
     all_goals go_wp2_with fail
     all_goals go_meet
     all_goals exact⟨congrArg Value.bool hh.o.symm,hb.drew,hW⟩
    ·have g1:decide (((D.length:Nat):Int)<1)=false:=decide_eq_false (by omega);by_cases h2:1000<D.length
     ·have hh:Hq (decide (Dec.bad D)=true):=hq (decide_eq_true (.inr (.inl h2)));have g2:decide ((1000:Int)<((D.length:Nat):Int))=true:=decide_eq_true (by omega)
      go_region
      all_goals go_wp2_with fail
      all_goals go_meet
      all_goals exact⟨congrArg Value.bool hh.o.symm,hb.drew,hW⟩
     ·have g2:decide ((1000:Int)<((D.length:Nat):Int))=false:=decide_eq_false (by omega);have hdl:=nd_le D;have hh:Hq (decide (Dec.bad D)=(((nd D:Nat):Int) !=((D.length:Nat):Int))):=hq (by
       cases hx:D.all za7 with
       |true=>rw[(nd_len D).2 hx,decide_eq_false (fun h=>h.elim (fun h=>by omega) (fun h=>h.elim (fun h=>by omega) (fun h=>by rw[hx]at h;cases h)))];simp
       |false=>
        have hne:nd D≠D.length:=fun h=>by have:=(nd_len D).1 h;rw[hx]at this;cases this
        rw[decide_eq_true (.inr (.inr hx))];symm;rw[bne_iff_ne];omega)
      generalize hn0:nd D=n0 at *;have HN0:=hq hn0;clear hn0;have hb2:=hb.drew
      go_region_with (go_at_call 124;refine(zq7 _ _ HZ.o).mono ?_;rw[zc7,HN0.o];rintro e w1 ⟨rfl,hb1⟩;have hW1:Whole w1 w.heap.size 59 #[.bool neg,.string (st D),.int .i64 E]:=Whole.grow (by assumption) hb1;obtain⟨c0,c1,c2⟩:=za2 hW1;have hbx:Below w.heap.size w w1:=za (by assumption) hb1)
      all_goals go_wp2_with fail
      all_goals go_meet
      all_goals exact⟨congrArg Value.bool hh.o.symm,hbx,hW1⟩
   case rest=>
    clear hW hb c0 c1 c2;obtain⟨rfl,hb,hW⟩:=hcut;obtain⟨c0,c1,c2⟩:=za2 hW;by_cases hbad:Dec.bad D
    ·have HF:Hq (R=false):=hq (by rw[HR2.o,if_pos hbad]);rw[decide_eq_true hbad];clear HR2 hbad;go_wp2_with fail
     go_ret
     exact⟨by rw[HF.o];rfl,hb⟩
    ·have HR3:=hq (HR2.o.trans (if_neg hbad));rw[decide_eq_false hbad];have hp:0<D.length:=by
      by_cases h:0<D.length
      ·exact h
      ·exact absurd (.inl (by omega)) hbad
     clear HR2 hbad;have hz0:0<(st D).size:=by rw[za8];exact hp
     have hz1:D.length-1<(st D).size:=by rw[za8];omega
     have hno:Hq (Dec.nought0 D↔((st D)[0]'hz0).toNat=48\/((st D)[D.length-1]'hz1).toNat=48):=hq (by
      have h1:D.head?=some D[0]:=by rw[List.head?_eq_getElem?,List.getElem?_eq_getElem hp]
      have h2:D.getLast?=some (D[D.length-1]'(by omega)):=by rw[List.getLast?_eq_getElem?,List.getElem?_eq_getElem (by omega)]
      unfold Dec.nought0;rw[h1,h2];have e1:((st D)[0]'hz0)=D[0]:=rfl;have e2:((st D)[D.length-1]'hz1)=D[D.length-1]'(by omega):=rfl;rw[e1,e2];simp only[Option.some.injEq,←UInt8.toNat_inj];rfl)
     generalize hx0:((st D)[0]'hz0).toNat=x0 at hno;generalize hx1:((st D)[D.length-1]'hz1).toNat=x1 at hno;have hy0:(((st D)[0]'hz0).toNat:Int)=(x0:Int):=by rw[hx0]
     have hy1:(((st D)[D.length-1]'hz1).toNat:Int)=(x1:Int):=by rw[hx1]
     clear hx0 hx1;go_upto_region 5 with fail
     go_cut [38] (fun c wx=>c= .bool (decide (Dec.nought0 D))/\wx=wc)
     case first=>
      by_cases g0:x0=48
      ·have hh:Hq (decide (Dec.nought0 D)=true):=hq (decide_eq_true (hno.o.2 (.inl g0)));have e0:((x0:Int)==48)=true:=by rw[g0];rfl
       clear g0;go_wp2_with fail
       go_meet
       exact⟨congrArg Value.bool hh.o.symm,rfl⟩
      ·have e0:((x0:Int)==48)=false:=beq_eq_false_iff_ne.2 (by omega);by_cases g1:x1=48
       ·have hh:Hq (decide (Dec.nought0 D)=true):=hq (decide_eq_true (hno.o.2 (.inr g1)));have e1:((x1:Int)==48)=true:=by rw[g1];rfl
        clear g0 g1;go_wp2_with fail
        go_meet
        exact⟨congrArg Value.bool hh.o.symm,rfl⟩
       ·have hh:Hq (decide (Dec.nought0 D)=false):=hq (decide_eq_false (fun h=>(hno.o.1 h).elim g0 g1));have e1:((x1:Int)==48)=false:=beq_eq_false_iff_ne.2 (by omega);clear g0 g1;go_wp2_with fail
        go_meet
        exact⟨congrArg Value.bool hh.o.symm,rfl⟩
     case rest=>
      obtain⟨rfl,rfl⟩:=hcut;by_cases hn:Dec.nought0 D
      ·have HF:Hq (R=false):=hq (by rw[HR3.o,if_pos hn]);rw[decide_eq_true hn];clear HR3 hn hno;go_wp2_with fail
       go_ret
       exact⟨by rw[HF.o];rfl,hb⟩
      ·have HR4:=hq (HR3.o.trans (if_neg hn));rw[decide_eq_false hn];clear HR3 hn hno;by_cases g1:-1000000<=E
       ·by_cases g2:E<=1000000
        ·have HF:Hq (R=true):=hq (by rw[HR4.o];exact decide_eq_true ⟨g1,g2⟩);clear HR4;go_wp2_with fail
         go_ret
         exact⟨by rw[HF.o];rfl,hb⟩
        ·have HF:Hq (R=false):=hq (by rw[HR4.o];exact decide_eq_false (fun h=>g2 h.2));clear HR4;go_wp2_with fail
         go_ret
         exact⟨by rw[HF.o];rfl,hb⟩
       ·have HF:Hq (R=false):=hq (by rw[HR4.o];exact decide_eq_false (fun h=>g1 h.1));clear HR4;go_wp2_with fail
        go_ret
        exact⟨by rw[HF.o];rfl,hb⟩
def zb3(l:Bs):Dec×Int:=
 match zm6 l with
 |none=>(.zero,2)
 |some p=>
  if 1000<p.whole.length+p.frac.length then(.zero,3)
  else if 9<(zd1 p.power).length then(.zero,4)
  else if (numM p.neg p.whole p.frac p.down (zd1 p.power)).right=true then(numM p.neg p.whole p.frac p.down (zd1 p.power),0) else(.zero,4)
theorem numM_exp(neg:Bool)(whole frac:Bs)(down:Bool)(power:Bs)(hp:power.all za7=true)(hl:power.length<=9)(hw:whole.length+frac.length<=1000):
 (numM neg whole frac down power).digits.length<=1000/\-9223372036854775808<=(numM neg whole frac down power).exp/\(numM neg whole frac down power).exp<=9223372036854775807:=by
 have hb:=zy3 power hp hl;have h1:=zE7 (whole++frac);have h2:=stripR_le (zd1 (whole++frac));rw[List.length_append]at h1;unfold numM;simp only;split
 ·simp[Dec.zero]
 ·refine ⟨by simp only;omega,?_,?_⟩<;>simp only<;>split<;>omega
theorem zi8(l:Bs):(l.takeWhile za7).all za7=true:=by
 induction l with
 |nil=>rfl
 |cons c l ih=>
  rw[List.takeWhile_cons];split
  ·rename_i h;rw[List.all_cons,h,ih];rfl
  ·rfl
theorem zJ1 {p q:Parts} {d:Bool} {r:Bs} (h:zg8 p d r=some q):q.power.all za7=true/\q.whole=p.whole/\q.frac=p.frac:=by
 unfold zg8 at h;split at h
 ·rename_i hh;injection h with h;subst h;exact⟨hh.2,rfl,rfl⟩
 ·cases h
theorem zJ2 {p q:Parts} {l:Bs} (h:zg9 p l=some q):q.power.all za7=true/\q.whole=p.whole/\q.frac=p.frac:=by
 unfold zg9 at h;split at h<;>exact zJ1 h
theorem zs5 {p q:Parts} {l:Bs} (hp:p.power.all za7=true)(h:zf0 p l=some q):q.power.all za7=true/\q.whole=p.whole/\q.frac=p.frac:=by
 cases l with
 |nil=>unfold zf0 at h;injection h with h;subst h;exact⟨hp,rfl,rfl⟩
 |cons c l=>
  have h:(if c=101\/c=69 then zg9 p l else none)=some q:=h;split at h
  ·exact zJ2 h
  ·cases h
theorem zB9 {l:Bs} {q:Parts} (h:zm6 l=some q):q.power.all za7=true/\q.whole.all za7=true/\q.frac.all za7=true/\q.whole.length+q.frac.length<=l.length:=by
 have key: ∀(neg:Bool) (m:Bs),m.length<=l.length->zg1 neg m=some q->q.power.all za7=true/\q.whole.all za7=true/\q.frac.all za7=true/\q.whole.length+q.frac.length<=l.length:=by
  intro neg m hm hs;have hlen:(m.takeWhile za7).length+(m.dropWhile za7).length=m.length:=by
   have:=congrArg List.length (List.takeWhile_append_dropWhile (p:=za7) (l:=m));rwa [List.length_append]at this
  unfold zg1 at hs;simp only at hs;split at hs
  ·cases hs
  ·unfold zl at hs;split at hs
   ·rename_i r hr;have hlr:(m.dropWhile za7).length=r.length+1:=by rw[hr];simp
    have hlen2:(r.takeWhile za7).length<=r.length:=(List.takeWhile_prefix _).length_le;split at hs
    ·cases hs
    ·obtain ⟨a,b,c⟩:=zs5 (by rfl) hs;rw[b,c];exact⟨a,zi8 m,zi8 r,by simp only;omega⟩
   ·obtain ⟨a,b,c⟩:=zs5 (by rfl) hs;rw[b,c];exact⟨a,zi8 m,rfl,by simp only[List.length_nil];omega⟩
 unfold zm6 at h;split at h
 ·exact key _ _ (by rw[List.length_tail];omega) h
 ·exact key _ _ (Nat.le_refl _) h
theorem zK7 {l:Bs} (h:l.all za7=true):(zd1 l).all za7=true:=by
 unfold zd1 Lib.trimLeftB;rw[List.all_eq_true]at *;intro x hx;exact h x ((List.dropWhile_suffix _).subset hx)
theorem zF {w1:World} {g:Nat} {t:TypeId} {x y z:Value} (hW:Whole w1 g t #[x,y,z])(a b c:Value)(o:Obj):
 Whole ((((w1.setCell ⟨g,0,none⟩ a).setCell ⟨g,1,none⟩ b).setCell ⟨g,2,none⟩ c).alloc o) g t #[a,b,c]:=by
 simpa using (((hW.put 0 a).put 1 b).put 2 c).alloc o
def zI8(R:Dec×Int)(w:World)(e:Ending)(w':World):Prop:=e= .returned (.tuple #[R.1.val,.int .i64 R.2])/\Below w.heap.size w w'
theorem zy2(s:ByteArray)(w:World)(hs:s.size<=1099511627776):
 Calls Tryz.prog 42 #[.string s] w (zI8 (zb3 s.data.toList) w):=by
 have HS:Hq (s.size<=maxLen):=hq (by unfold maxLen;omega);generalize hR:zb3 s.data.toList=R;have HR:=hq hR;clear hR;go_enter Tryz.func42,Tryz.ntmps42
 go_wp2_with fail
 refine(split_any s _ HS.o).mono ?_;generalize hP:zm6 s.data.toList=P;rintro e w1 ⟨⟨v,rfl,hv⟩,hb1⟩;have hW:=(Whole.made w 59 #[.bool false,.string (st []),.int .i64 0]).grow hb1;have hb:Below w.heap.size w w1:=(za0 w (.cells #[.bool false,.string (st []),.int .i64 0] 59)).trans (hb1.mono (by rw[World.size_alloc];omega));clear hb1;obtain⟨r0,r1,r2⟩:=za2 hW;have q0:=hW.free 0;have q1:=hW.free 1;have q2:=hW.free 2;have hlt:=hW.lt;rcases hv with ⟨⟨neg,whole,frac,down,power⟩,rfl,rfl⟩|⟨rfl,⟨neg,whole,frac,down,power⟩,rfl⟩
 ·simp only[Parts.val];have HQ:=hq (zB9 hP);simp only at HQ;have hlen:whole.length+frac.length<=1099511627776:=by have:=HQ.o.2.2.2;rw[Array.length_toList]at this;exact Nat.le_trans this hs
  by_cases hk:1000<whole.length+frac.length
  ·have HN:Hq (R=(.zero,3)):=hq (by rw[←HR.o];unfold zb3;rw[hP];simp only[if_pos hk]);clear HR hP HQ;go_wp2_with fail
   refine bodyPost_ret (v:= .tuple #[Dec.zero.val,.int .i64 3]) ?_ rfl ?_
   ·obtain ⟨z0,z1,z2⟩:=za2 (zF hW (.bool false) (.string ⟨#[]⟩) (.int .i64 0) (.cells #[.bool neg,.string (st whole),.string (st frac),.bool down,.string (st power)] 86));simp[results,Tryz.results42,go_sem,z0,z1,z2,Dec.zero,Dec.val]
   ·exact ⟨by rw[HN.o],(((hb.setCell (p:=⟨w.heap.size,0,none⟩) (by simp) _).setCell (p:=⟨w.heap.size,1,none⟩) (by simp) _).setCell (p:=⟨w.heap.size,2,none⟩) (by simp) _).alloc (by simp;omega) _⟩
  ·have HP2:Hq (R=if 9<(zd1 power).length then(.zero,4) else if (numM neg whole frac down (zd1 power)).right=true then(numM neg whole frac down (zd1 power),0) else(.zero,4)):=hq (by
    rw[←HR.o];unfold zb3;rw[hP];simp only[if_neg hk])
   clear HR hP;have HA:=hq (zK7 HQ.o.1);clear HQ;go_wp2_with fail
   refine(Tryz.strings_TrimLeft_one (st power) 48 (by decide) _).mono ?_;rw[zc7,show Lib.trimLeftB power 48=zd1 power from rfl];generalize zd1 power=PW at *;rintro e w2 ⟨rfl,hw2⟩;obtain rfl:=hw2.symm;by_cases h9:9<PW.length
   ·have HN:Hq (R=(.zero,4)):=hq (by rw[HP2.o,if_pos h9]);clear HP2;go_wp2_with fail
    refine bodyPost_ret (v:= .tuple #[Dec.zero.val,.int .i64 4]) ?_ rfl ?_
    ·obtain ⟨z0,z1,z2⟩:=za2 (zF hW (.bool false) (.string ⟨#[]⟩) (.int .i64 0) (.cells #[.bool neg,.string (st whole),.string (st frac),.bool down,.string (st power)] 86));simp[results,Tryz.results42,go_sem,z0,z1,z2,Dec.zero,Dec.val]
    ·exact ⟨by rw[HN.o],(((hb.setCell (p:=⟨w.heap.size,0,none⟩) (by simp) _).setCell (p:=⟨w.heap.size,1,none⟩) (by simp) _).setCell (p:=⟨w.heap.size,2,none⟩) (by simp) _).alloc (by simp;omega) _⟩
   ·have HP3:Hq (R=if (numM neg whole frac down PW).right=true then(numM neg whole frac down PW,0) else(.zero,4)):=hq (by rw[HP2.o,if_neg h9]);clear HP2;have hex:=numM_exp neg whole frac down PW HA.o (by omega) (by omega);go_wp2_with fail
    refine(zL6 neg whole frac down _ PW _ HA.o (by omega) hlen).mono ?_;generalize numM neg whole frac down PW=D at *;rintro e w2 ⟨rfl,hb2⟩;obtain⟨dn,DD,DE⟩:=D;simp only[Dec.val]at *;have hW2:=(hW.alloc (.cells #[.bool neg,.string (st whole),.string (st frac),.bool down,.string (st power)] 86)).grow hb2;have hb3:Below w.heap.size w w2:=(hb.alloc (by omega) _).trans (hb2.mono (by rw[World.size_alloc];omega));clear hb2;go_wp2_with fail
    refine(zG dn DD DE _ (by omega) hex.2).mono ?_;generalize Dec.right ⟨dn,DD,DE⟩=B at *;rintro e w3 ⟨rfl,hbA⟩;have hW3:=(hW2.alloc (.cells #[.bool dn,.string (st DD),.int .i64 DE] 59)).grow hbA;have hN3:=(Whole.made w2 59 #[.bool dn,.string (st DD),.int .i64 DE]).grow hbA;have hb4:Below w.heap.size w w3:=(hb3.alloc (by have:=hb3.size;omega) _).trans (hbA.mono (by rw[World.size_alloc];have:=hb3.size;omega));have hlt3:=hN3.lt;have hlt2:=hb3.size;clear hbA hb3 hW2 hex hb r0 r1 r2 q0 q1 q2 hW;obtain⟨r0,r1,r2⟩:=za2 hW3;obtain⟨n0,n1,n2⟩:=za2 hN3;have q0:=hW3.free 0;have q1:=hW3.free 1;have q2:=hW3.free 2;cases B with
    |true=>
     have HN:Hq (R=(⟨dn,DD,DE⟩,0)):=hq (by rw[HP3.o,if_pos rfl]);clear HP3;go_wp2_with fail
     refine bodyPost_ret (v:= .tuple #[(Dec.mk dn DD DE).val,.int .i64 0]) ?_ rfl ?_
     ·obtain ⟨z0,z1,z2⟩:=za2 (by simpa using (((hW3.put 0 (.bool dn)).put 1 (.string (st DD))).put 2 (.int .i64 DE)));simp[results,Tryz.results42,go_sem,z0,z1,z2,Dec.val]
     ·exact ⟨by rw[HN.o],((hb4.setCell (p:=⟨w.heap.size,0,none⟩) (by simp) _).setCell (p:=⟨w.heap.size,1,none⟩) (by simp) _).setCell (p:=⟨w.heap.size,2,none⟩) (by simp) _⟩
    |false=>
     have HN:Hq (R=(.zero,4)):=hq (by rw[HP3.o,if_neg (by simp)]);clear HP3;go_wp2_with fail
     refine bodyPost_ret (v:= .tuple #[Dec.zero.val,.int .i64 4]) ?_ rfl ?_
     ·simp[results,Tryz.results42,go_sem,r0,r1,r2,Dec.zero,Dec.val]
     ·exact ⟨by rw[HN.o],((hb4.setCell (p:=⟨w.heap.size,0,none⟩) (by simp) _).setCell (p:=⟨w.heap.size,1,none⟩) (by simp) _).setCell (p:=⟨w.heap.size,2,none⟩) (by simp) _⟩
 ·have HN:Hq (R=(.zero,2)):=hq (by rw[←HR.o];unfold zb3;rw[hP]);clear HR hP;simp only[Parts.val];go_wp2_with fail
  refine bodyPost_ret (v:= .tuple #[Dec.zero.val,.int .i64 2]) ?_ rfl ?_
  ·obtain ⟨z0,z1,z2⟩:=za2 (zF hW (.bool false) (.string ⟨#[]⟩) (.int .i64 0) (.cells #[.bool neg,.string (st whole),.string (st frac),.bool down,.string (st power)] 86));simp[results,Tryz.results42,go_sem,z0,z1,z2,Dec.zero,Dec.val]
  ·exact ⟨by rw[HN.o],(((hb.setCell (p:=⟨w.heap.size,0,none⟩) (by simp) _).setCell (p:=⟨w.heap.size,1,none⟩) (by simp) _).setCell (p:=⟨w.heap.size,2,none⟩) (by simp) _).alloc (by simp;omega) _⟩
def notE(c:UInt8):Bool:=!(c==101||c==69)
def zj9(c:UInt8):Bool:=!(c==46)
def digs(l:Bs):Bool:=decide (l≠ []/\l.all za7=true)
def rexp:Bs->Bool×Bs
 | []=>(false,[48])
 |_::r=>if (r.head?==some 45)=true then(true,r.tail) else(false,if (r.head?==some 43)=true then r.tail else r)
def zy:Bs->Bs
 | []=> [48]
 |_::r=>r
def zO2:Bs->Bs
 | []=> []
 |_::r=>r
structure RParts where
 neg:Bool
 whole:Bs
 frac:Bs
 down:Bool
 exp:Bs
 ok:Bool
def zi3(w:Bs):Bool:=decide (w=[48]\/w.head?≠some 48)
def zn(neg:Bool)(m:Bs):RParts:=
 let mant:=m.takeWhile notE
 let tl:=m.dropWhile notE
 let whole:=mant.takeWhile zj9
 let pt:=mant.dropWhile zj9
 ⟨neg,whole,zO2 pt,(rexp tl).1,(rexp tl).2,digs whole&&digs (zy pt)&&digs (rexp tl).2&&zi3 whole⟩
def zd8(l:Bs):RParts:=if (l.head?==some 45)=true then zn true l.tail else zn false l
def zR3(x pw:Bs):Prop:=pw=x\/(x=[48]/\pw=[])
def Fits(r:RParts)(o:Option Parts):Prop:=
 (r.ok=false/\o=none)\/(r.ok=true/\ ∃pw,o=some ⟨r.neg,r.whole,r.frac,r.down,pw⟩/\zR3 r.exp pw)
theorem zQ5 {c:UInt8} (h:za7 c=true):notE c=true/\zj9 c=true:=by
 unfold za7 at h;simp only[Bool.and_eq_true,decide_eq_true_eq]at h;unfold notE zj9;constructor
 ·cases h1:(c==101||c==69) with
  |false=>rfl
  |true=>
   simp only[Bool.or_eq_true,beq_iff_eq]at h1;rcases h1 with h1|h1<;>(rw[h1]at h;simp at h)
 ·cases h1:(c==46) with
  |false=>rfl
  |true=>
   simp only[beq_iff_eq]at h1;rw[h1]at h;simp at h
theorem zx5 {p:UInt8->Bool} {a:Bs} (b:Bs)(h:a.all p=true):(a++b).takeWhile p=a++b.takeWhile p/\(a++b).dropWhile p=b.dropWhile p:=by
 induction a with
 |nil=>exact⟨rfl,rfl⟩
 |cons c a ih=>
  simp only[List.all_cons,Bool.and_eq_true]at h;obtain⟨h1,h2⟩:=ih h.2;exact⟨by rw[List.cons_append,List.takeWhile_cons,if_pos h.1,h1];rfl,by rw[List.cons_append,List.dropWhile_cons,if_pos h.1,h2]⟩
theorem all_imp {p q:UInt8->Bool} {a:Bs} (h: ∀c,p c=true->q c=true)(ha:a.all p=true):a.all q=true:=by
 rw[List.all_eq_true]at *;exact fun x hx=>h x (ha x hx)
theorem head_drop {p:UInt8->Bool} (l:Bs) {c:UInt8} {r:Bs} (h:l.dropWhile p=c::r):p c=false:=by
 induction l with
 |nil=>cases h
 |cons x l ih=>
  rw[List.dropWhile_cons]at h;split at h
  ·exact ih h
  ·rename_i hx;injection h with h1 h2
   rw[←h1];simpa using hx
theorem digs_no {a b:Bs} {c:UInt8} (h:za7 c=false):digs (a++c::b)=false:=by
 unfold digs;refine decide_eq_false (fun hh=> ?_);have:=hh.2;rw[List.all_append,List.all_cons,h]at this;simp at this
theorem wholeOk_eq(w:Bs)(h:w.all za7=true):(digs w&&zi3 w)=decide (¬(w=[]\/(1<w.length/\w.head?=some 48))):=by
 unfold digs zi3;rw[←Bool.decide_and];refine decide_eq_decide.2 ?_;cases w with
 |nil=>simp
 |cons c l=>
  cases l with
  |nil=>
   simp only[List.head?_cons,Option.some.injEq,List.length_cons,List.length_nil];constructor
   ·intro _ hh;rcases hh with hh|hh
    ·cases hh
    ·omega
   ·intro _;refine⟨⟨by simp,h⟩,?_⟩;by_cases hc:c=48
    ·left;rw[hc]
    ·right;simpa using hc
  |cons d l=>
   constructor
   ·rintro ⟨⟨_,_⟩,hh⟩ h2;rcases h2 with h2|h2
    ·cases h2
    ·rcases hh with hh|hh
     ·injection hh with _ hh;cases hh
     ·exact hh h2.2
   ·intro hh;refine⟨⟨by simp,h⟩,.inr (fun h2=>hh (.inr ⟨by simp,h2⟩))⟩
theorem zN7(p:Parts)(c:UInt8)(r:Bs):
 (digs (rexp (c::r)).2=false/\zg9 p r=none)\/(digs (rexp (c::r)).2=true/\zg9 p r=some {p with down:=(rexp (c::r)).1,power:=(rexp (c::r)).2}):=by
 have key: ∀(d:Bool) (x:Bs),(digs x=false/\zg8 p d x=none)\/(digs x=true/\zg8 p d x=some {p with down:=d,power:=x}):=by
  intro d x;unfold digs zg8;by_cases h:x≠ []/\x.all za7=true
  ·exact .inr ⟨decide_eq_true h,if_pos h⟩
  ·exact .inl ⟨decide_eq_false h,if_neg h⟩
 unfold zg9 rexp;by_cases h:(r.head?==some 45)=true
 ·rw[if_pos h];simp only[h];exact key _ _
 ·rw[if_neg h];simp only[if_neg h];exact key _ _
theorem isE_of {c:UInt8} (h:notE c=false):c=101\/c=69:=by
 unfold notE at h;cases hc:(c==101||c==69) with
 |false=>rw[hc]at h;cases h
 |true=>simpa only[Bool.or_eq_true,beq_iff_eq] using hc
theorem notE_of {c:UInt8} (h:notE c=true): ¬(c=101\/c=69):=by
 unfold notE at h;simpa using h
theorem zv8(p:Parts)(hp:p.down=false/\p.power=[])(l:Bs)(hl: ∀c r,l=c::r->za7 c=false):
 (l.takeWhile notE=[]/\((digs (rexp (l.dropWhile notE)).2=false/\zf0 p l=none)\/(digs (rexp (l.dropWhile notE)).2=true/\ ∃pw,zf0 p l=some {p with down:=(rexp (l.dropWhile notE)).1,power:=pw}/\zR3 (rexp (l.dropWhile notE)).2 pw)))\/
 (∃c r,l.takeWhile notE=c::r/\za7 c=false/\l.head?=some c/\zf0 p l=none):=by
 cases l with
 |nil=>
  left;refine⟨rfl,.inr ⟨by decide,[],?_,.inr ⟨rfl,rfl⟩⟩⟩;obtain⟨a,b,c,d,e⟩:=p;obtain⟨h1,h2⟩:=hp;simp only at h1 h2;subst h1;subst h2;rfl
 |cons c r=>
  have hc:=hl c r rfl;have e:zf0 p (c::r)=if c=101\/c=69 then zg9 p r else none:=rfl
  cases hE:notE c with
  |false=>
   left;have h1:(c::r).dropWhile notE=c::r:=by rw[List.dropWhile_cons,if_neg (by rw[hE];simp)]
   rw[h1,e,if_pos (isE_of hE)];refine⟨by rw[List.takeWhile_cons,if_neg (by rw[hE];simp)],?_⟩;rcases zN7 p c r with h|h
   ·exact .inl h
   ·exact .inr ⟨h.1,_,h.2,.inl rfl⟩
  |true=>
   right;exact⟨c,r.takeWhile notE,by rw[List.takeWhile_cons,if_pos hE],hc,rfl,by rw[e,if_neg (notE_of hE)]⟩
theorem zC3(neg:Bool)(m:Bs):Fits (zn neg m) (zg1 neg m):=by
 have hA:=zi8 m;have hm:=List.takeWhile_append_dropWhile (p:=za7) (l:=m);have hB: ∀c r,m.dropWhile za7=c::r->za7 c=false:=fun c r h=>head_drop m h
 unfold zg1 zn;simp only;generalize m.takeWhile za7=A at *;generalize m.dropWhile za7=B at *;subst hm;obtain⟨e1,e2⟩:=zx5 B (all_imp (q:=notE) (fun c h=>(zQ5 h).1) hA);rw[e1,e2];obtain⟨e3,e4⟩:=zx5 (B.takeWhile notE) (all_imp (q:=zj9) (fun c h=>(zQ5 h).2) hA);rw[e3,e4];have hw:=wholeOk_eq A hA;have close: ∀(rest frac:Bs) (x:Bool×Bs) (o:Option Parts),
  ((digs rest&&digs x.2)=false/\o=none)\/((digs rest&&digs x.2)=true/\ ∃pw,o=some ⟨neg,A,frac,x.1,pw⟩/\zR3 x.2 pw)->
  Fits ⟨neg,A,frac,x.1,x.2,digs A&&digs rest&&digs x.2&&zi3 A⟩ (if A=[]\/(1<A.length/\A.head?=some 48) then none else o):=by
  intro rest frac x o h;have hb:(digs A&&digs rest&&digs x.2&&zi3 A)=((digs A&&zi3 A)&&(digs rest&&digs x.2)):=by
   cases digs A<;>cases digs rest<;>cases digs x.2<;>cases zi3 A<;>rfl
  unfold Fits;simp only[hb,hw];by_cases hbad:A=[]\/(1<A.length/\A.head?=some 48)
  ·rw[if_pos hbad,decide_eq_false (fun hh=>hh hbad)];exact .inl ⟨rfl,rfl⟩
  ·rw[if_neg hbad,decide_eq_true hbad];simpa using h
 have closeN: ∀(whole rest frac:Bs) (x:Bool×Bs) (o:Option Parts),digs whole=false->o=none->Fits ⟨neg,whole,frac,x.1,x.2,digs whole&&digs rest&&digs x.2&&zi3 whole⟩ (if A=[]\/(1<A.length/\A.head?=some 48) then none else o):=by
  intro whole rest frac x o h ho;refine .inl ⟨?_,?_⟩
  ·simp[h]
  ·rw[ho];split<;>rfl
 cases B with
 |nil=>
  simp only[List.takeWhile_nil,List.dropWhile_nil,List.append_nil];refine close _ _ _ _ (.inr ⟨by decide,[],rfl,.inr ⟨rfl,rfl⟩⟩)
 |cons c r=>
  have hc:=hB c r rfl;by_cases h46:c=46
  ·subst h46;have f1:(46::r).takeWhile notE=46::r.takeWhile notE:=by rw[List.takeWhile_cons];rfl
   have f2:(46::r).dropWhile notE=r.dropWhile notE:=by rw[List.dropWhile_cons];rfl
   have f3:(46::r.takeWhile notE).takeWhile zj9=[]:=by rw[List.takeWhile_cons];rfl
   have f4:(46::r.takeWhile notE).dropWhile zj9=46::r.takeWhile notE:=by rw[List.dropWhile_cons];rfl
   rw[f1,f2,f3,f4,List.append_nil];have hF:=zi8 r;have hr:=List.takeWhile_append_dropWhile (p:=za7) (l:=r);have hG: ∀c t,r.dropWhile za7=c::t->za7 c=false:=fun c t h=>head_drop r h
   unfold zl;simp only[zy,zO2];generalize r.takeWhile za7=F at *;generalize r.dropWhile za7=G at *;subst hr;obtain⟨g1,g2⟩:=zx5 G (all_imp (q:=notE) (fun c h=>(zQ5 h).1) hF);rw[g1,g2];refine close _ _ _ _ ?_;rcases zv8 ⟨neg,A,F,false,[]⟩ ⟨rfl,rfl⟩ G hG with ⟨h1,h2⟩|⟨c,t,h1,h2,_,h3⟩
   ·rw[h1,List.append_nil];by_cases hF0:F=[]
    ·left;rw[if_pos hF0,hF0];exact⟨by simp[digs],rfl⟩
    ·have hd:digs F=true:=decide_eq_true ⟨hF0,hF⟩;rw[if_neg hF0,hd,Bool.true_and];exact h2
   ·left;rw[h1,digs_no h2];refine⟨rfl,?_⟩;split
    ·rfl
    ·exact h3
  ·have hsf:zl ⟨neg,A,[],false,[]⟩ (c::r)=zf0 ⟨neg,A,[],false,[]⟩ (c::r):=by
    unfold zl;split
    ·rename_i heq;injection heq with heq _;exact absurd heq h46
    ·rfl
   rw[hsf];rcases zv8 ⟨neg,A,[],false,[]⟩ ⟨rfl,rfl⟩ (c::r) (fun x y hxy=>hB x y hxy) with ⟨h1,h2⟩|⟨d,t,h1,h2,h0,h3⟩
   ·rw[h1];simp only[List.takeWhile_nil,List.dropWhile_nil,List.append_nil];refine close _ _ _ _ ?_;rw[show digs (zy [])=true by decide,Bool.true_and];exact h2
   ·injection h0 with h0
    subst h0;have f5:zj9 c=true:=by unfold zj9;simp[h46]
    rw[h1,List.takeWhile_cons,if_pos f5];exact closeN _ _ _ _ _ (digs_no h2) h3
theorem parts_fits(l:Bs):Fits (zd8 l) (zm6 l):=by
 unfold zd8 zm6;by_cases h:(l.head?==some 45)=true
 ·rw[if_pos h,if_pos h];exact zC3 _ _
 ·rw[if_neg h,if_neg h];exact zC3 _ _
def zk1:Bs->Bs
 |a::b::l=>if a=48 then zk1 (b::l) else a::b::l
 |l=>l
def rnum(neg:Bool)(down:Bool)(x frac d:Bs):Dec×Int:=
 let s:=zd6 d
 let e:=(if down then-zc9 x else zc9 x)-frac.length+d.length-s.length
 if d=[] then(.zero,0) else if e< -1000000\/1000000<e then(.zero,4) else(⟨neg,s,e⟩,0)
def rparseM(l:Bs):Dec×Int:=
 let p:=zd8 l
 if p.ok=false then(.zero,2) else if 1000<p.whole.length+p.frac.length then(.zero,3)
 else if 9<(zk1 p.exp).length then(.zero,4) else rnum p.neg p.down (zk1 p.exp) p.frac (zd1 (p.whole++p.frac))
theorem zj8(c:UInt8)(l:Bs):zd1 (c::l)=if c=48 then zd1 l else c::l:=by
 unfold zd1 Lib.trimLeftB;rw[List.dropWhile_cons];by_cases h:c=48
 ·rw[if_pos h,if_pos (by simp[h])]
 ·rw[if_neg h,if_neg (by simp[h])]
theorem zK6: ∀l:Bs,zd1 l=[]->zk1 l=if l=[] then [] else [48]
 | [],_=>rfl
 | [a],h=>by
   rw[zj8]at h;split at h
   ·rename_i h1;subst h1;rfl
   ·cases h
 |a::b::l,h=>by
  rw[zj8]at h;split at h
  ·rename_i h1;have:=zK6 (b::l) h;simp only[zk1,if_pos h1,this];rfl
  ·cases h
theorem zK5: ∀l:Bs,zd1 l≠ []->zk1 l=zd1 l
 | [],h=>absurd rfl h
 | [a],h=>by
   rw[zj8]at h ⊢;split
   ·rename_i h1;rw[if_pos h1]at h;exact absurd rfl h
   ·rfl
 |a::b::l,h=>by
  rw[zj8]at h ⊢;simp only[zk1];by_cases h1:a=48
  ·rw[if_pos h1]at h ⊢;rw[if_pos h1];exact zK5 (b::l) h
  ·rw[if_neg h1,if_neg h1]
theorem zO0 {x pw:Bs} (h:zR3 x pw):zc9 (zk1 x)=zc9 (zd1 pw)/\(9<(zk1 x).length↔9<(zd1 pw).length):=by
 rcases h with rfl|⟨rfl,rfl⟩
 ·by_cases hs:zd1 pw=[]
  ·rw[zK6 _ hs,hs];split
   ·exact ⟨rfl,Iff.rfl⟩
   ·exact ⟨rfl,by simp⟩
  ·rw[zK5 _ hs];exact⟨rfl,Iff.rfl⟩
 ·exact ⟨rfl,by simp[zk1,zd1,Lib.trimLeftB]⟩
theorem zw4: ∀l:Bs,(zd1 l).head?≠some 48
 | []=>by simp[zd1,Lib.trimLeftB]
 |c::l=>by
  rw[zj8];split
  ·exact zw4 l
  ·rename_i h;simpa using h
theorem mem_tw {p:UInt8->Bool}: ∀ {l:Bs} {x:UInt8},x∈l.takeWhile p->p x=true
 | [],x,h=>by simp at h
 |c::l,x,h=>by
  rw[List.takeWhile_cons]at h;split at h
  ·rename_i hc;rcases List.mem_cons.1 h with h|h
   ·rw[h];exact hc
   ·exact mem_tw h
  ·simp at h
theorem stripR_ne {d:Bs} (h:d≠ [])(hh:d.head?≠some 48):zd6 d≠ []:=by
 intro h2;cases d with
 |nil=>exact h rfl
 |cons c l=>
  have h3:c≠48:=by simpa using hh
  unfold zd6 Lib.trimRightB at h2;have h4:((c::l).reverse.dropWhile fun x=>x==48)=[]:=by
   have:=congrArg List.reverse h2;rwa [List.reverse_reverse]at this
  have h6:=List.takeWhile_append_dropWhile (p:=fun x:UInt8=>x==48) (l:=(c::l).reverse);rw[h4,List.append_nil]at h6;have h5:c∈(c::l).reverse.takeWhile fun x=>x==48:=by rw[h6];simp
  have h7:=mem_tw h5;exact h3 (by simpa using h7)
theorem rnum_right(neg down:Bool)(whole frac pw x:Bs)(hx:zc9 x=zc9 pw)(hw:(whole++frac).all za7=true)(hl:whole.length+frac.length<=1000):
 rnum neg down x frac (zd1 (whole++frac))=(if (numM neg whole frac down pw).right=true then(numM neg whole frac down pw,0) else(.zero,4)):=by
 have hh:=zw4 (whole++frac);have hle:=zE7 (whole++frac);have hda:=zK7 hw;rw[List.length_append]at hle;unfold rnum numM;simp only;generalize zd1 (whole++frac)=d at *;rw[hx];generalize hE:(if down=true then -zc9 pw else zc9 pw)-(frac.length:Int)+(d.length:Int)-((zd6 d).length:Int)=e;by_cases h0:d=[]
 ·rw[if_pos h0];have:zd6 d=[]:=by rw[h0];rfl
  rw[if_pos this];rfl
 ·rw[if_neg h0];have hs:=stripR_ne h0 hh;obtain⟨t,ht⟩:=stripR_pre d;have hlast:=stripR_last d;rw[if_neg hs];have hlen:=congrArg List.length ht;rw[List.length_append]at hlen;generalize zd6 d=s at *;have hsd:s.all za7=true:=by rw[ht,List.all_append,Bool.and_eq_true]at hda;exact hda.1
  have hsh:s.head?≠some 48:=by
   cases s with
   |nil=>exact absurd rfl hs
   |cons c l=>rw[ht]at hh;exact hh
  have hp:=List.length_pos_iff.2 hs;have hr:(Dec.mk neg s e).right=decide (-1000000<=e/\e<=1000000):=by
   unfold Dec.right;rw[if_neg (fun h=>hs (congrArg Dec.digits h)),if_neg,if_neg]
   ·unfold Dec.nought0;exact fun h=>h.elim hsh hlast
   ·unfold Dec.bad;rintro (h|h|h)
    ·simp only at h;omega
    ·simp only at h;omega
    ·simp only at h;rw[hsd]at h;cases h
  by_cases hb:e< -1000000\/1000000<e
  ·rw[if_pos hb,hr,decide_eq_false (by omega)];rfl
  ·rw[if_neg hb,hr,decide_eq_true (by omega)];rfl
theorem rparseM_eq(l:Bs):rparseM l=zb3 l:=by
 have hf:=parts_fits l;have hq:= @zB9 l;unfold rparseM zb3;generalize zd8 l=r at *;generalize zm6 l=o at *;rcases hf with ⟨h1,h2⟩|⟨h1,pw,h2,h3⟩
 ·subst h2;simp only[h1];rfl
 ·subst h2;obtain⟨h4,h5⟩:=zO0 h3;obtain⟨q1,q2,q3,q4⟩:=hq rfl;simp only[h1]at *;rw[if_neg (by simp)];by_cases hk:1000<r.whole.length+r.frac.length
  ·rw[if_pos hk,if_pos hk]
  ·rw[if_neg hk,if_neg hk];by_cases h9:9<(zd1 pw).length
   ·rw[if_pos h9,if_pos (h5.2 h9)]
   ·rw[if_neg h9,if_neg (fun h=>h9 (h5.1 h))];exact rnum_right _ _ _ _ _ _ h4 (by rw[List.all_append,q2,q3];rfl) (by omega)
def Dec.sign(d:Dec):Int:=if d= .zero then 0 else if d.neg=true then -1 else 1
def sizeM(a b:Dec):Int:=
 if (a.digits.length:Int)+a.exp<b.digits.length+b.exp then -1
 else if (b.digits.length:Int)+b.exp<a.digits.length+a.exp then 1
 else Lib.compareBytes a.digits b.digits
def rankM(b:Bool):Int:=if b then 1 else 0
def compareM(a b:Dec):Int:=
 if (a.right&&b.right)=true then
  if a.sign=b.sign then a.sign*sizeM a b else if a.sign<b.sign then -1 else 1
 else rankM a.right-rankM b.right
def Twin(w:World)(na:Bool)(DA:Bs)(EA:Int)(nb:Bool)(DB:Bs)(EB:Int)(W:World):Prop:=
 (Below w.heap.size w W/\Whole W w.heap.size 59 #[.bool na,.string (st DA),.int .i64 EA]/\Whole W (w.heap.size+1) 59 #[.bool nb,.string (st DB),.int .i64 EB])
theorem Twin.grow {w:World} {na:Bool} {DA:Bs} {EA:Int} {nb:Bool} {DB:Bs} {EB:Int} {W W':World} (h:Twin w na DA EA nb DB EB W)(hb:Below W.heap.size W W'):Twin w na DA EA nb DB EB W':=
 ⟨za h.1 hb,h.2.1.grow hb,h.2.2.grow hb⟩
theorem Twin.drew {w:World} {na:Bool} {DA:Bs} {EA:Int} {nb:Bool} {DB:Bs} {EB:Int} {W:World} (h:Twin w na DA EA nb DB EB W):Twin w na DA EA nb DB EB W.drew:=⟨h.1.drew,h.2.1,h.2.2⟩
theorem Twin.cells {w:World} {na:Bool} {DA:Bs} {EA:Int} {nb:Bool} {DB:Bs} {EB:Int} {W:World} (h:Twin w na DA EA nb DB EB W):
 W.cell? ⟨w.heap.size,0,none⟩=some (.bool na)/\W.cell? ⟨w.heap.size,1,none⟩=some (.string (st DA))/\W.cell? ⟨w.heap.size,2,none⟩=some (.int .i64 EA)/\
 W.cell? ⟨w.heap.size+1,0,none⟩=some (.bool nb)/\W.cell? ⟨w.heap.size+1,1,none⟩=some (.string (st DB))/\W.cell? ⟨w.heap.size+1,2,none⟩=some (.int .i64 EB):=by
 obtain⟨c0,c1,c2⟩:=za2 h.2.1;obtain⟨d0,d1,d2⟩:=za2 h.2.2;exact⟨c0,c1,c2,d0,d1,d2⟩
theorem zm2 {n:Bool} {D:Bs} {E:Int} (h:Dec.right ⟨n,D,E⟩=true):D.length<=1000/\-1000000<=E/\E<=1000000:=by
 unfold Dec.right at h;split at h
 ·rename_i hz;have h1:=congrArg Dec.digits hz;have h2:=congrArg Dec.exp hz;simp only[Dec.zero]at h1 h2;rw[h1,h2];exact⟨by simp,by omega,by omega⟩
 ·split at h
  ·cases h
  ·rename_i hb;split at h
   ·cases h
   ·have:=of_decide_eq_true h;unfold Dec.bad at hb;exact⟨by simp only[not_or]at hb;omega,this.1,this.2⟩
theorem zG3(l:Bs)(w:World)(hl:l.length<=1099511627776):
 Calls Tryz.prog 132 #[.string (st l)] w fun e w'=>e= .returned (.bool (decide (l≠ []/\l.all za7=true)))/\w'=w:=by
 generalize hR:decide (l≠ []/\l.all za7=true)=R;have HR:=hq hR;clear hR;go_enter Tryz.func132,Tryz.ntmps132
 go_wp2
 go_loop [3] (fun a=> ∃k:Nat,a= .int .i64 k/\k<=l.length/\Hq ((l.take k).all za7=true)) (fun a=>l.length-(intOf a).toNat)
 case atStart=>exact⟨0,rfl,by omega,hq rfl⟩
 case round=>
  obtain⟨k,rfl,hk,hd⟩:=hrel;by_cases hlt:k<l.length
  ·have hz:k<(st l).size:=by rw[za8];exact hlt
   have hstep:Hq ((l.take (k+1)).all za7=(decide (48<=((st l)[k]'hz).toNat)&&decide (((st l)[k]'hz).toNat<=57))):=hq (by
    rw[List.take_succ_eq_append_getElem hlt,List.all_append,hd.o,Bool.true_and,List.all_cons,List.all_nil,Bool.and_true];rfl)
   have hno:Hq ((l.take (k+1)).all za7=false->R=false):=hq (fun h=>by
    rw[←HR.o];refine decide_eq_false (fun hh=> ?_);have:=List.all_eq_true.1 hh.2;rw[List.all_eq_false]at h;obtain⟨y,hy,hy2⟩:=h;exact hy2 (this y (List.mem_of_mem_take hy)))
   generalize hx:((st l)[k]'hz).toNat=x at hstep;have hy:(((st l)[k]'hz).toNat:Int)=(x:Int):=by rw[hx]
   clear hx;by_cases g1:48<=x
   ·by_cases g2:x<=57
    ·have hnext:Hq ((l.take (k+1)).all za7=true):=hq (by rw[hstep.o];simp[g1,g2]);clear hstep hno hd;go_wp2
     go_round
     case rel=>exact⟨k+1,rfl,by omega,hnext⟩
     case measure=>simp[intOf];omega
    ·have HN:=hq (hno.o (by rw[hstep.o];simp[g2]));clear hstep hno hd;go_wp2
     go_ret
     exact⟨by rw[HN.o];rfl,rfl⟩
   ·have HN:=hq (hno.o (by rw[hstep.o];simp[g1]));clear hstep hno hd;go_wp2
    go_ret
    exact⟨by rw[HN.o];rfl,rfl⟩
  ·have hkl:k=l.length:=by omega
   have HN:Hq (R=decide (0<l.length)):=hq (by
    rw[←HR.o];have:=hd.o;rw[hkl,List.take_length]at this;refine decide_eq_decide.2 ⟨fun h=> ?_,fun h=>⟨fun h2=> ?_,this⟩⟩
    ·exact List.length_pos_iff.2 h.1
    ·rw[h2]at h;simp at h)
   clear hd;go_wp2
   go_ret
   exact⟨by rw[HN.o];rfl,rfl⟩
theorem zF8(neg:Bool)(D:Bs)(E:Int)(w:World):
 Calls Tryz.prog 87 #[.agg #[.bool neg,.string (st D),.int .i64 E]] w fun e w'=>e= .returned (.bool (decide (Dec.mk neg D E= .zero)))/\Below w.heap.size w w':=by
 have heq:=eq_num neg D E;have hb:=za0 w (.cells #[.bool neg,.string (st D),.int .i64 E] 59);generalize decide (Dec.mk neg D E= .zero)=B at *;go_enter Tryz.func87,Tryz.ntmps87
 go_wp2_with fail
 go_ret
 exact⟨rfl,hb⟩
theorem rright_any(neg:Bool)(D:Bs)(E:Int)(w:World)(hD:D.length<=1099511627776)(hE:-9223372036854775808<=E/\E<=9223372036854775807):
 Calls Tryz.prog 86 #[.agg #[.bool neg,.string (st D),.int .i64 E]] w fun e w'=>e= .returned (.bool (Dec.right ⟨neg,D,E⟩))/\Below w.heap.size w w':=by
 generalize hR:Dec.right ⟨neg,D,E⟩=R;have HR:=hq hR;clear hR;go_enter Tryz.func86,Tryz.ntmps86
 go_wp2_with fail
 refine(zF8 neg D E _).mono ?_;rintro e w1 ⟨rfl,hb1⟩;have hb:=(za0 w (.cells #[.bool neg,.string (st D),.int .i64 E] 59)).trans (hb1.mono (by rw[World.size_alloc];omega));have hW:=(Whole.made w 59 #[.bool neg,.string (st D),.int .i64 E]).grow hb1;clear hb1;obtain⟨c0,c1,c2⟩:=za2 hW;by_cases hz:Dec.mk neg D E= .zero
 ·rw[decide_eq_true hz];have HN:Hq (R=true):=hq (by rw[←HR.o];unfold Dec.right;exact if_pos hz);clear HR hz;go_wp2_with fail
  go_ret
  exact⟨by rw[HN.o];rfl,hb⟩
 ·rw[decide_eq_false hz];have HR2:Hq (R=if Dec.bad D then false else if Dec.nought0 D then false else decide (-1000000<=E/\E<=1000000)):=hq (by rw[←HR.o];unfold Dec.right;rw[if_neg hz]);clear HR hz;go_wp2_with fail
  refine(zG3 D _ hD).mono ?_;by_cases hok:D≠ []/\D.all za7=true
  ·rw[decide_eq_true hok];rintro e w2 ⟨rfl,hw2⟩;obtain rfl:=hw2.symm;have hp:0<D.length:=List.length_pos_iff.2 hok.1;by_cases hk:D.length<=1000
   ·have HR3:Hq (R=if Dec.nought0 D then false else decide (-1000000<=E/\E<=1000000)):=hq (HR2.o.trans (if_neg (by
     unfold Dec.bad;rintro (h|h|h)
     ·omega
     ·omega
     ·rw[hok.2]at h;cases h)))
    have hz0:0<(st D).size:=by rw[za8];exact hp
    have hz1:D.length-1<(st D).size:=by rw[za8];omega
    have hno:Hq (Dec.nought0 D↔((st D)[0]'hz0).toNat=48\/((st D)[D.length-1]'hz1).toNat=48):=hq (by
     have h1:D.head?=some D[0]:=by rw[List.head?_eq_getElem?,List.getElem?_eq_getElem hp]
     have h2:D.getLast?=some (D[D.length-1]'(by omega)):=by rw[List.getLast?_eq_getElem?,List.getElem?_eq_getElem (by omega)]
     unfold Dec.nought0;rw[h1,h2];have e1:((st D)[0]'hz0)=D[0]:=rfl;have e2:((st D)[D.length-1]'hz1)=D[D.length-1]'(by omega):=rfl;rw[e1,e2];simp only[Option.some.injEq,←UInt8.toNat_inj];rfl)
    generalize hx0:((st D)[0]'hz0).toNat=x0 at hno;generalize hx1:((st D)[D.length-1]'hz1).toNat=x1 at hno;have hy0:(((st D)[0]'hz0).toNat:Int)=(x0:Int):=by rw[hx0]
    have hy1:(((st D)[D.length-1]'hz1).toNat:Int)=(x1:Int):=by rw[hx1]
    clear hx0 hx1 HR2 hok;by_cases g0:x0=48
    ·have HN:=hq (HR3.o.trans (if_pos (hno.o.2 (.inl g0))));have e0:((x0:Int) !=48)=false:=by rw[g0];rfl
     clear g0 HR3 hno;go_wp2_with fail
     go_ret
     exact⟨by rw[HN.o];rfl,hb⟩
    ·have e0:((x0:Int) !=48)=true:=bne_iff_ne.2 (by omega);by_cases g1:x1=48
     ·have HN:=hq (HR3.o.trans (if_pos (hno.o.2 (.inr g1))));have e1:((x1:Int) !=48)=false:=by rw[g1];rfl
      clear g0 g1 HR3 hno;go_wp2_with fail
      go_ret
      exact⟨by rw[HN.o];rfl,hb⟩
     ·have HR4:=hq (HR3.o.trans (if_neg (fun h=>(hno.o.1 h).elim g0 g1)));have e1:((x1:Int) !=48)=true:=bne_iff_ne.2 (by omega);clear g0 g1 HR3 hno;by_cases g1:-1000000<=E
      ·by_cases g2:E<=1000000
       ·have HF:Hq (R=true):=hq (by rw[HR4.o];exact decide_eq_true ⟨g1,g2⟩);clear HR4;go_wp2_with fail
        go_ret
        exact⟨by rw[HF.o];rfl,hb⟩
       ·have HF:Hq (R=decide (E<=1000000)):=hq (by rw[HR4.o];exact decide_eq_decide.2 ⟨fun h=>h.2,fun h=>⟨g1,h⟩⟩);clear HR4;go_wp2_with fail
        go_ret
        exact⟨by rw[HF.o];rfl,hb⟩
      ·have HF:Hq (R=false):=hq (by rw[HR4.o];exact decide_eq_false (fun h=>g1 h.1));clear HR4;go_wp2_with fail
       go_ret
       exact⟨by rw[HF.o];rfl,hb⟩
   ·have HN:=hq (HR2.o.trans (if_pos (.inr (.inl (by omega)))));clear HR2 hok;go_wp2_with fail
    go_ret
    exact⟨by rw[HN.o];rfl,hb⟩
  ·rw[decide_eq_false hok];rintro e w2 ⟨rfl,hw2⟩;obtain rfl:=hw2.symm;have HN:Hq (R=false):=hq (HR2.o.trans (if_pos (by
    unfold Dec.bad;by_cases h:D=[]
    ·left;rw[h];simp
    ·right;right;cases hh:D.all za7 with
     |true=>exact absurd ⟨h,hh⟩ hok
     |false=>rfl)))
   clear HR2 hok;go_wp2_with fail
   go_ret
   exact⟨by rw[HN.o];rfl,hb⟩
def rcmp(a b:Bs):Nat->Nat->Int
 |0,_=>0
 |f+1,i=>
  if i<a.length\/i<b.length then
   if (a[i]?.getD 48).toNat<(b[i]?.getD 48).toNat then -1
   else if (b[i]?.getD 48).toNat<(a[i]?.getD 48).toNat then 1
   else rcmp a b f (i+1)
  else 0
def rsizeM(a b:Dec):Int:=
 if a.digits=[]\/b.digits=[] then(min a.digits.length 1:Nat)-(min b.digits.length 1:Nat)
 else if (a.digits.length:Int)+a.exp=b.digits.length+b.exp then rcmp a.digits b.digits (a.digits.length+b.digits.length+1) 0
 else if (a.digits.length:Int)+a.exp<b.digits.length+b.exp then -1 else 1
theorem right_dig {d:Dec} (h:d.right=true)(hz:d≠ .zero):d.digits≠ []/\d.digits.all za7=true/\d.digits.getLast?≠some 48:=by
 unfold Dec.right at h;rw[if_neg hz]at h;split at h
 ·cases h
 ·rename_i hb;split at h
  ·cases h
  ·rename_i hn;unfold Dec.bad at hb;unfold Dec.nought0 at hn;simp only[not_or]at hb hn;refine⟨fun hh=> ?_,by simpa using hb.2.2,hn.2⟩;have:=hb.1;rw[hh]at this;simp at this
def rcompareM(a b:Dec):Int:=
 if (a.right&&b.right)=true then
  if a.neg=b.neg then(if a.neg=true then rsizeM b a else rsizeM a b) else if a.neg=true then -1 else 1
 else if a.right=true then 1 else if b.right=true then -1 else 0
def Dec.mag(N:Nat)(d:Dec):Int:=zc9 d.digits*10^(d.exp+N).toNat
def Dec.at_(N:Nat)(d:Dec):Int:=if d.neg=true then-d.mag N else d.mag N
def ofM(n:Int):Dec:=numM (decide (n<0)) (Lib.decDigits n.natAbs) [] false []
def intV(neg:Bool)(v:Int):Int×Bool:=
 if neg=true then(if v<=9223372036854775808 then(-v,true) else(0,false)) else(if v<=9223372036854775807 then(v,true) else(0,false))
def intM(d:Dec):Int×Bool:=
 if d.right=true/\0<=d.exp/\d.digits.length+d.exp<=19 then intV d.neg (zc9 (d.digits++List.replicate d.exp.toNat 48)) else(0,false)
theorem intV_t(v:Int):intV true v=if v<=9223372036854775808 then(-v,true) else(0,false):=rfl
theorem intV_f(v:Int):intV false v=if v<=9223372036854775807 then(v,true) else(0,false):=rfl
theorem zw: ∀(l:Bs) (acc:Nat),l.all za7=true->acc<10^(19-l.length)->l.length<=19->
 Lib.parseUintM (2^64-1) acc l= .ok (acc*10^l.length+(zc9 l).toNat)
 | [],acc,_,_,_=>by simp[Lib.parseUintM,zc9]
 |c::l,acc,h,ha,hl=>by
  rw[List.all_cons,Bool.and_eq_true]at h;have hc:=h.1;unfold za7 at hc;simp only[Bool.and_eq_true,decide_eq_true_eq]at hc;rw[List.length_cons]at ha hl;have h18:10^(19-(l.length+1))<=10^18:=Nat.pow_le_pow_right (by omega) (by omega);have e18:(10:Nat)^18=1000000000000000000:=by decide
  have hs:10^(19-l.length)=10*10^(19-(l.length+1)):=by
   rw[show 19-l.length=(19-(l.length+1))+1 by omega,Nat.pow_succ,Nat.mul_comm]
  have ih:=zw l (acc*10+(c.toNat-48)) h.2 (by rw[hs];omega) (by omega);unfold Lib.parseUintM;rw[if_pos hc,if_neg (by omega),if_neg (by omega),ih]
  congr 1
  have hb:=(zP2 l h.2).1;rw[numOf_cons,List.length_cons,Nat.pow_succ];have hp:(((c.toNat:Int)-48)*10^l.length+zc9 l).toNat=(c.toNat-48)*10^l.length+(zc9 l).toNat:=by
   have e1:((c.toNat:Int)-48)=((c.toNat-48:Nat):Int):=by omega
   have e2:((10:Int)^l.length)=((10^l.length:Nat):Int):=by simp
   rw[e1,e2,←Int.natCast_mul];omega
  rw[hp,Nat.add_mul,Nat.mul_assoc,Nat.mul_comm 10 _];omega
theorem zO9(neg:Bool)(l:Bs)(h:l.all za7=true)(hl:l.length<=19)(h0:l≠ []):
 Lib.parseIntB 64 ((if neg=true then [45] else [])++l)=if (intV neg (zc9 l)).2=true then .ok (intV neg (zc9 l)).1 else .range:=by
 have hp:=zw l 0 h (Nat.pow_pos (by omega)) hl;rw[Nat.zero_mul,Nat.zero_add]at hp;have hu:Lib.parseUintB 64 l= .ok (zc9 l).toNat:=by unfold Lib.parseUintB;rw[if_neg h0];exact hp
 have hb:=(zP2 l h).1;generalize hv:zc9 l=v at *;cases neg with
 |true=>
  show Lib.parseIntB 64 (45::l)=_;unfold Lib.parseIntB;simp only;rw[if_pos (.inr (by decide)),hu];simp only;rw[if_neg (fun hh=>hh.1 (by decide))];by_cases hc:v<=9223372036854775808
  ·rw[if_neg (fun hh=>by have:=hh.2;omega),if_pos (by decide),intV_t,if_pos hc];simp only[if_true]
   congr 1;omega
  ·rw[if_pos ⟨by decide,by omega⟩,intV_t,if_neg hc];simp
 |false=>
  cases l with
  |nil=>exact absurd rfl h0
  |cons c r=>
   rw[List.all_cons,Bool.and_eq_true]at h;have hc:=h.1;unfold za7 at hc;simp only[Bool.and_eq_true,decide_eq_true_eq]at hc;rw[if_neg (by simp),List.nil_append];unfold Lib.parseIntB;simp only;rw[if_neg (by omega),hu];simp only;by_cases hc2:v<=9223372036854775807
   ·rw[if_neg (fun hh=>by have:=hh.2;omega),if_neg (fun hh=>by have:=hh.1;omega),if_neg (by omega),intV_f,if_pos hc2];simp only[if_true]
    congr 1;omega
   ·rw[if_pos ⟨by omega,by omega⟩,intV_f,if_neg hc2];simp
theorem zO5(k:Nat):Lib.repeatL [48] k=List.replicate k 48:=by
 induction k with
 |zero=>rfl
 |succ k ih=>rw[Lib.repeatL,ih];rfl
theorem zO4(k:Nat):(List.replicate k (48:UInt8)).all za7=true:=by
 induction k with
 |zero=>rfl
 |succ k ih=>rw[List.replicate_succ,List.all_cons,ih];rfl
theorem itoas_tab(E:Int)(h0:-9223372036854775808<=E)(h1:E<=9223372036854775807)(w:World)(htab: ∀W,Below w.heap.size w W->Lib.TabIs Tryz.prog W "internal/strconv.uint64pow10" .u64 Lib.pow10Tab):Itoas E w:=fun W hW=>(Tryz.strconv_Itoa E h0 h1 W (htab W hW)).mono (by
 rintro e w' ⟨rfl,k,os,rfl⟩;exact⟨rfl,Lib.below_grow _ _ (Nat.le_refl _) _ _⟩)
def zk9(d:Dec):Bs:=
 if d.right=true then
  if d= .zero then [48] else(if d.neg=true then [45] else [])++d.digits++(if d.exp≠0 then 101::Lib.itoa d.exp else [])
 else []
theorem zD1(neg:Bool)(D:Bs)(E:Int)(w:World)(hD:D.length<=1099511627776)(hE:-9223372036854775808<=E/\E<=9223372036854775807)(hI:E≠0->Itoas E w)(hL:(Lib.itoa E).length<=1000):
 Calls Tryz.prog 43 #[.agg #[.bool neg,.string (st D),.int .i64 E]] w fun e w'=>e= .returned (.string (st (zk9 ⟨neg,D,E⟩)))/\Below w.heap.size w w':=by
 have HBD:=hq (@zm2 neg D E);generalize hR:zk9 ⟨neg,D,E⟩=R;have HR:=hq hR;clear hR;have HI:=hq hI;clear hI;go_enter Tryz.func43,Tryz.ntmps43
 go_wp2_with fail
 refine(zG neg D E _ hD hE).mono ?_;rintro e w1 ⟨rfl,hb1⟩;have hb:=(za0 w (.cells #[.bool neg,.string (st D),.int .i64 E] 59)).trans (hb1.mono (by rw[World.size_alloc];omega));have hW:=(Whole.made w 59 #[.bool neg,.string (st D),.int .i64 E]).grow hb1;clear hb1;obtain⟨c0,c1,c2⟩:=za2 hW;by_cases hr:Dec.right ⟨neg,D,E⟩=true
 ·have HR2:=hq (HR.o.symm.trans (if_pos hr));simp only at HR2;have hbd:=HBD.o hr;rw[hr];clear HR hr HBD;have heq:=eq_num neg D E;by_cases hz:Dec.mk neg D E= .zero
  ·have HN:=hq (HR2.o.trans (if_pos hz));rw[decide_eq_true hz]at heq;clear HR2 hz HI;go_wp2_with fail
   go_ret
   exact⟨by rw[HN.o];rfl,hb⟩
  ·have HN:=hq (HR2.o.trans (if_neg hz));rw[decide_eq_false hz]at heq;clear HR2 hz;cases neg with
   |true=>
    by_cases he:E=0
    ·have he2:(E !=0)=false:=by simp[he]
     have HN2:Hq (R=45::D):=hq (by rw[HN.o];simp[he]);clear HN he HI;go_wp2_with fail
     go_ret
     exact⟨by rw[HN2.o];exact congrArg (fun x=>Ending.returned (.string x)) (zl7 [45] D),hb⟩
    ·have he2:(E !=0)=true:=bne_iff_ne.2 he;have HN2:Hq (R=(45::D)++(101::Lib.itoa E)):=hq (by rw[HN.o];simp[he]);have hIt:=hq ((HI.o he).grow hb);clear HN he HI;have hz2:(st (Lib.itoa E)).size<=1000:=by rw[za8];exact hL
     go_wp2_with fail
     refine(hIt.o _ (Below.refl _ _)).mono ?_;rintro e w2 ⟨rfl,hb2⟩
     replace hb:=za hb hb2
     clear hb2;go_wp2_with fail
     go_ret
     exact⟨by rw[HN2.o];exact congrArg (fun x=>Ending.returned (.string x)) (show(st [45]++st D)++(st [101]++st (Lib.itoa E))=st ((45::D)++(101::Lib.itoa E)) by rw[zl7,zl7,zl7];rfl),hb⟩
   |false=>
    by_cases he:E=0
    ·have he2:(E !=0)=false:=by simp[he]
     have HN2:Hq (R=D):=hq (by rw[HN.o];simp[he]);clear HN he HI;go_wp2_with fail
     go_ret
     exact⟨by rw[HN2.o];rfl,hb⟩
    ·have he2:(E !=0)=true:=bne_iff_ne.2 he;have HN2:Hq (R=D++(101::Lib.itoa E)):=hq (by rw[HN.o];simp[he]);have hIt:=hq ((HI.o he).grow hb);clear HN he HI;have hz2:(st (Lib.itoa E)).size<=1000:=by rw[za8];exact hL
     go_wp2_with fail
     refine(hIt.o _ (Below.refl _ _)).mono ?_;rintro e w2 ⟨rfl,hb2⟩
     replace hb:=za hb hb2
     clear hb2;go_wp2_with fail
     go_ret
     exact⟨by rw[HN2.o];exact congrArg (fun x=>Ending.returned (.string x)) ((congrArg (st D++ ·) (zl7 [101] _)).trans (zl7 D _)),hb⟩
 ·have HR2:=hq (HR.o.symm.trans (if_neg hr));have hr2:Dec.right ⟨neg,D,E⟩=false:=by simpa using hr
  rw[hr2];clear HR hr HBD;go_wp2_with fail
  go_ret
  exact⟨by rw[HR2.o];rfl,hb⟩
def OfPost(R:Dec)(w:World)(e:Ending)(w':World):Prop:=e= .returned R.val/\Below w.heap.size w w'
theorem of_any(n:Int)(p:Parts)(w:World)(hI:Itoas n w)(hL:(Lib.itoa n).length<=1000)(hp:zm6 (Lib.itoa n)=some p)(hp2:p.whole.length+p.frac.length<=1099511627776):
 Calls Tryz.prog 67 #[.int .i64 n] w (OfPost (numM p.neg p.whole p.frac p.down []) w):=by
 have HI:=hq hI;have HP:=hq hp;clear hI hp;have HL:Hq ((st (Lib.itoa n)).size<=maxLen):=hq (by rw[za8];unfold maxLen;omega);go_enter Tryz.func67,Tryz.ntmps67
 go_wp2_with fail
 have ha:=za0 w (.cells #[.bool false,.string (st []),.int .i64 0] 59);refine(HI.o _ ha).mono ?_;rintro e w1 ⟨rfl,hb1⟩;have hW:=(Whole.made w 59 #[.bool false,.string (st []),.int .i64 0]).grow hb1
 replace hb1:=za ha hb1
 clear ha;go_wp2_with fail
 refine(split_any _ _ HL.o).mono ?_;rw[zc7,HP.o];rintro e w2 ⟨⟨v,rfl,hv⟩,hb2⟩;obtain⟨q,hq,rfl⟩|⟨h,_⟩:=hv
 ·injection hq with hq
  subst hq;obtain⟨neg,whole,frac,down,power⟩:=p;simp only[Parts.val]at *;have hb:=za hb1 hb2
  replace hW:=hW.grow hb2
  obtain⟨r0,r1,r2⟩:=za2 hW;have q0:=hW.free 0;have q1:=hW.free 1;have q2:=hW.free 2;clear hb1 hb2 HP HI HL;go_wp2_with fail
  refine(zL6 neg whole frac down _ [] _ rfl (by simp) hp2).mono ?_;generalize numM neg whole frac down []=D at *;rintro e w3 ⟨rfl,hb3⟩;obtain⟨dn,DD,DE⟩:=D;simp only[Dec.val]at *;have hW3:=(hW.alloc (.cells #[.bool neg,.string (st whole),.string (st frac),.bool down,.string (st power)] 86)).grow hb3;have hb4:Below w.heap.size w w3:=(hb.alloc (by have:=hW.lt;omega) _).trans (hb3.mono (by rw[World.size_alloc];have:=hW.lt;omega));clear hb3 hb hW r0 r1 r2 q0 q1 q2;obtain⟨r0,r1,r2⟩:=za2 hW3;have q0:=hW3.free 0;have q1:=hW3.free 1;have q2:=hW3.free 2;go_wp2_with fail
  refine bodyPost_ret (v:=(Dec.mk dn DD DE).val) ?_ rfl ?_
  ·obtain ⟨z0,z1,z2⟩:=za2 (by simpa using (((hW3.put 0 (.bool dn)).put 1 (.string (st DD))).put 2 (.int .i64 DE)));simp[results,Tryz.results67,go_sem,z0,z1,z2,Dec.val]
  ·exact ⟨rfl,((hb4.setCell (p:=⟨w.heap.size,0,none⟩) (by simp) _).setCell (p:=⟨w.heap.size,1,none⟩) (by simp) _).setCell (p:=⟨w.heap.size,2,none⟩) (by simp) _⟩
 ·cases h
theorem zg7 {l:Bs} {m:Dec} (h:zb3 l=(m,0)):m.right=true:=by
 unfold zb3 at h;split at h
 ·injection h with _ h;cases h
 ·split at h
  ·injection h with _ h;cases h
  ·split at h
   ·injection h with _ h;cases h
   ·split at h
    ·rename_i hr;injection h with h _;rw[←h];exact hr
    ·injection h with _ h;cases h
end Go.Proofs.YtkafjblfjdpdaaaGreatDoor
