/-
  WALKS: number.Right.
  WALKS: number.Parse.
  PLAIN MATHEMATICS: the document's parts of a literal and its Parse are those of the program.
  PLAIN MATHEMATICS: the document's Parse answers what the program's answers.
  WALKS: number.sign, rank, size, Compare.
  WALKS: the document's digits.
  WALKS: the document's own answers of layer 2: digits, nought, Right, size, Compare.
  WALKS: the document's own size and Compare of layer 2.
  PLAIN MATHEMATICS: the document's Compare of two right numbers is the program's.
  PLAIN MATHEMATICS: Compare of right numbers is the order of what they are, times 10 ^ N; so it is an order.
  PLAIN MATHEMATICS: an int as a number: it is right, and its order is that of ints.
  PLAIN MATHEMATICS: a number as an int; what strconv.ParseInt answers of digits; Parse of an int's text.
  WALKS: number.Text, number.Of, over what Itoa answers.
  PLAIN MATHEMATICS: a right number's text is parsed as that number; an int's number is that int.
-/
import Derived.Test.YtkafjblfjdpdaaaGreatDoorNud
import Derived.Deep.RegionWith
import Derived.Test.YtkafjblfjdpdaaaGreatDoorNumSp
import Derived.Deep.RegionHeld3
import Derived.Lib.ParseIntB
import Derived.Lib.Repeat
import Derived.Lib.AppendIntMem
namespace Go.Proofs.YtkafjblfjdpdaaaGreatDoor
open Go.RowKit
def Dec.bad(D:Bs):Prop:=D.length<1∨1000<D.length∨D.all isDig=false
instance instDecNumBad (D:Bs):Decidable (Dec.bad D):=by unfold Dec.bad;infer_instance
def Dec.nought0(D:Bs):Prop:=D.head?=some 48∨D.getLast?=some 48
instance instDecNumNought (D:Bs):Decidable (Dec.nought0 D):=by unfold Dec.nought0;infer_instance
def Dec.right(d:Dec):Bool:=
 if d= .zero then true else if Dec.bad d.digits then false else if Dec.nought0 d.digits then false else decide (-1000000≤d.exp∧d.exp≤1000000)
theorem nd_len(l:Bs):nd l=l.length↔l.all isDig=true:=by
 constructor
 ·intro h
  have h2:l.takeWhile isDig=l:=(List.takeWhile_prefix isDig).eq_of_length h
  have h3: ∀m:Bs,m.takeWhile isDig=m→m.all isDig=true:=by
   intro m
   induction m with
   |nil=>intro _;rfl
   |cons c m ih=>
    intro hm
    rw[List.takeWhile_cons]at hm
    split at hm
    ·rename_i hc
     simp only[List.cons.injEq,true_and]at hm
     rw[List.all_cons,hc,ih hm];rfl
    ·cases hm
  exact h3 l h2
 ·intro h
  unfold nd
  have h2:l.takeWhile isDig=l:=by
   induction l with
   |nil=>rfl
   |cons c l ih=>
    simp only[List.all_cons,Bool.and_eq_true]at h
    rw[List.takeWhile_cons,if_pos h.1,ih h.2]
  rw[h2]
set_option maxRecDepth 100000 in
theorem eq_num0(neg:Bool)(D:Bs)(E:Int): ∀W:World,(Op.equalIn 10000 59 (.agg #[.bool neg,.string (st D),.int .i64 E]) (.agg #[.bool false,.string ⟨#[]⟩,.int .i64 0])).run Tryz.prog W= .ok (decide (neg=false∧D=[]∧E=0)) W:=by
 intro W
 have h23:=Tryz.underlying59
 have hst:Tryz.prog.stoodInHeld 59=false:=by kernel_rfl
 cases neg<;>by_cases hD:D=[]<;>by_cases hE:E=0
 all_goals (try subst hD)
 all_goals (try subst hE)
 all_goals go_simp
theorem eq_num(neg:Bool)(D:Bs)(E:Int): ∀W:World,(Op.equalIn 10000 59 (.agg #[.bool neg,.string (st D),.int .i64 E]) (.agg #[.bool false,.string ⟨#[]⟩,.int .i64 0])).run Tryz.prog W= .ok (decide (Dec.mk neg D E= .zero)) W:=by
 intro W
 rw[eq_num0]
 congr 1
 refine decide_eq_decide.2 ⟨fun ⟨h1,h2,h3⟩=>by rw[h1,h2,h3];rfl,fun h=>⟨congrArg Dec.neg h,congrArg Dec.digits h,congrArg Dec.exp h⟩⟩
set_option maxHeartbeats 1000000 in
set_option maxRecDepth 1000000 in
theorem right_any(neg:Bool)(D:Bs)(E:Int)(w:World)(hD:D.length≤1099511627776)(hE:-9223372036854775808≤E∧E≤9223372036854775807):
 Calls Tryz.prog 83 #[.agg #[.bool neg,.string (st D),.int .i64 E]] w fun e w'=>e= .returned (.bool (Dec.right ⟨neg,D,E⟩))∧Below w.heap.size w w':=by
 obtain⟨hE1,hE2⟩:=hE
 generalize hR:Dec.right ⟨neg,D,E⟩=R
 have HR:=hq hR
 clear hR
 have HZ:Hq ((st D).size≤maxLen):=hq (by rw[st_size];unfold maxLen;omega)
 go_enter Tryz.func83,Tryz.ntmps83
 go_upto_region 1 with fail
 have hW:=Whole.made w 59 #[.bool neg,.string (st D),.int .i64 E]
 have hb:=below_alloc w (.cells #[.bool neg,.string (st D),.int .i64 E] 59)
 generalize hWW:w.alloc (.cells #[.bool neg,.string (st D),.int .i64 E] 59)=W at *
 clear hWW
 obtain⟨c0,c1,c2⟩:=three_cells hW
 have heq:=eq_num neg D E
 generalize hB:decide (Dec.mk neg D E= .zero)=B at heq
 have HB:=hq hB
 clear hB
 go_cut [5] (fun c wx=>c= .bool B∧wx=W)
 case first=>
  go_wp2_with fail
  go_meet
  exact⟨rfl,rfl⟩
 case rest=>
  obtain⟨rfl,rfl⟩:=hcut
  clear heq
  rw[←HB.o]
  clear HB
  by_cases hz:Dec.mk neg D E= .zero
  ·have HT:Hq (R=true):=hq (by rw[←HR.o];unfold Dec.right;rw[if_pos hz])
   rw[decide_eq_true hz]
   clear HR hz
   go_wp2_with fail
   go_ret
   exact⟨by rw[HT.o];rfl,hb⟩
  ·rw[decide_eq_false hz]
   have HR2:Hq (R=if Dec.bad D then false else if Dec.nought0 D then false else decide (-1000000≤E∧E≤1000000)):=hq (by rw[←HR.o];unfold Dec.right;rw[if_neg hz])
   clear HR hz
   go_upto_region 3 with fail
   go_cut [24] (fun c wx=>c= .bool (decide (Dec.bad D))∧Below w.heap.size w wx∧Whole wx w.heap.size 59 #[.bool neg,.string (st D),.int .i64 E])
   case first=>
    by_cases h1:D.length<1
    ·have hh:Hq (decide (Dec.bad D)=true):=hq (decide_eq_true (.inl h1))
     have g1:decide (((D.length:Nat):Int)<1)=true:=decide_eq_true (by omega)
     go_region
     all_goals go_wp2_with fail
     all_goals go_meet
     all_goals exact⟨congrArg Value.bool hh.o.symm,hb.drew,hW⟩
    ·have g1:decide (((D.length:Nat):Int)<1)=false:=decide_eq_false (by omega)
     by_cases h2:1000<D.length
     ·have hh:Hq (decide (Dec.bad D)=true):=hq (decide_eq_true (.inr (.inl h2)))
      have g2:decide ((1000:Int)<((D.length:Nat):Int))=true:=decide_eq_true (by omega)
      go_region
      all_goals go_wp2_with fail
      all_goals go_meet
      all_goals exact⟨congrArg Value.bool hh.o.symm,hb.drew,hW⟩
     ·have g2:decide ((1000:Int)<((D.length:Nat):Int))=false:=decide_eq_false (by omega)
      have hdl:=nd_le D
      have hh:Hq (decide (Dec.bad D)=(((nd D:Nat):Int) !=((D.length:Nat):Int))):=hq (by
       cases hx:D.all isDig with
       |true=>rw[(nd_len D).2 hx,decide_eq_false (fun h=>h.elim (fun h=>by omega) (fun h=>h.elim (fun h=>by omega) (fun h=>by rw[hx]at h;cases h)))];simp
       |false=>
        have hne:nd D≠D.length:=fun h=>by have:=(nd_len D).1 h;rw[hx]at this;cases this
        rw[decide_eq_true (.inr (.inr hx))];symm;rw[bne_iff_ne];omega)
      generalize hn0:nd D=n0 at *
      have HN0:=hq hn0
      clear hn0
      have hb2:=hb.drew
      go_region_with (go_at_call 124;refine(digits_any _ _ HZ.o).mono ?_;rw[st_list,HN0.o];rintro e w1 ⟨rfl,hb1⟩;have hW1:Whole w1 w.heap.size 59 #[.bool neg,.string (st D),.int .i64 E]:=Whole.grow (by assumption) hb1;obtain⟨c0,c1,c2⟩:=three_cells hW1;have hbx:Below w.heap.size w w1:=below_trans (by assumption) hb1)
      all_goals go_wp2_with fail
      all_goals go_meet
      all_goals exact⟨congrArg Value.bool hh.o.symm,hbx,hW1⟩
   case rest=>
    clear hW hb c0 c1 c2
    obtain⟨rfl,hb,hW⟩:=hcut
    obtain⟨c0,c1,c2⟩:=three_cells hW
    by_cases hbad:Dec.bad D
    ·have HF:Hq (R=false):=hq (by rw[HR2.o,if_pos hbad])
     rw[decide_eq_true hbad]
     clear HR2 hbad
     go_wp2_with fail
     go_ret
     exact⟨by rw[HF.o];rfl,hb⟩
    ·have HR3:=hq (HR2.o.trans (if_neg hbad))
     rw[decide_eq_false hbad]
     have hp:0<D.length:=by
      by_cases h:0<D.length
      ·exact h
      ·exact absurd (.inl (by omega)) hbad
     clear HR2 hbad
     have hz0:0<(st D).size:=by rw[st_size];exact hp
     have hz1:D.length-1<(st D).size:=by rw[st_size];omega
     have hno:Hq (Dec.nought0 D↔((st D)[0]'hz0).toNat=48∨((st D)[D.length-1]'hz1).toNat=48):=hq (by
      have h1:D.head?=some D[0]:=by rw[List.head?_eq_getElem?,List.getElem?_eq_getElem hp]
      have h2:D.getLast?=some (D[D.length-1]'(by omega)):=by rw[List.getLast?_eq_getElem?,List.getElem?_eq_getElem (by omega)]
      unfold Dec.nought0
      rw[h1,h2]
      have e1:((st D)[0]'hz0)=D[0]:=rfl
      have e2:((st D)[D.length-1]'hz1)=D[D.length-1]'(by omega):=rfl
      rw[e1,e2]
      simp only[Option.some.injEq,←UInt8.toNat_inj]
      rfl)
     generalize hx0:((st D)[0]'hz0).toNat=x0 at hno
     generalize hx1:((st D)[D.length-1]'hz1).toNat=x1 at hno
     have hy0:(((st D)[0]'hz0).toNat:Int)=(x0:Int):=by rw[hx0]
     have hy1:(((st D)[D.length-1]'hz1).toNat:Int)=(x1:Int):=by rw[hx1]
     clear hx0 hx1
     go_upto_region 5 with fail
     go_cut [38] (fun c wx=>c= .bool (decide (Dec.nought0 D))∧wx=wc)
     case first=>
      by_cases g0:x0=48
      ·have hh:Hq (decide (Dec.nought0 D)=true):=hq (decide_eq_true (hno.o.2 (.inl g0)))
       have e0:((x0:Int)==48)=true:=by rw[g0];rfl
       clear g0
       go_wp2_with fail
       go_meet
       exact⟨congrArg Value.bool hh.o.symm,rfl⟩
      ·have e0:((x0:Int)==48)=false:=beq_eq_false_iff_ne.2 (by omega)
       by_cases g1:x1=48
       ·have hh:Hq (decide (Dec.nought0 D)=true):=hq (decide_eq_true (hno.o.2 (.inr g1)))
        have e1:((x1:Int)==48)=true:=by rw[g1];rfl
        clear g0 g1
        go_wp2_with fail
        go_meet
        exact⟨congrArg Value.bool hh.o.symm,rfl⟩
       ·have hh:Hq (decide (Dec.nought0 D)=false):=hq (decide_eq_false (fun h=>(hno.o.1 h).elim g0 g1))
        have e1:((x1:Int)==48)=false:=beq_eq_false_iff_ne.2 (by omega)
        clear g0 g1
        go_wp2_with fail
        go_meet
        exact⟨congrArg Value.bool hh.o.symm,rfl⟩
     case rest=>
      obtain⟨rfl,rfl⟩:=hcut
      by_cases hn:Dec.nought0 D
      ·have HF:Hq (R=false):=hq (by rw[HR3.o,if_pos hn])
       rw[decide_eq_true hn]
       clear HR3 hn hno
       go_wp2_with fail
       go_ret
       exact⟨by rw[HF.o];rfl,hb⟩
      ·have HR4:=hq (HR3.o.trans (if_neg hn))
       rw[decide_eq_false hn]
       clear HR3 hn hno
       by_cases g1:-1000000≤E
       ·by_cases g2:E≤1000000
        ·have HF:Hq (R=true):=hq (by rw[HR4.o];exact decide_eq_true ⟨g1,g2⟩)
         clear HR4
         go_wp2_with fail
         go_ret
         exact⟨by rw[HF.o];rfl,hb⟩
        ·have HF:Hq (R=false):=hq (by rw[HR4.o];exact decide_eq_false (fun h=>g2 h.2))
         clear HR4
         go_wp2_with fail
         go_ret
         exact⟨by rw[HF.o];rfl,hb⟩
       ·have HF:Hq (R=false):=hq (by rw[HR4.o];exact decide_eq_false (fun h=>g1 h.1))
        clear HR4
        go_wp2_with fail
        go_ret
        exact⟨by rw[HF.o];rfl,hb⟩
def parseM(l:Bs):Dec×Int:=
 match splitM l with
 |none=>(.zero,2)
 |some p=>
  if 1000<p.whole.length+p.frac.length then(.zero,3)
  else if 9<(stripL p.power).length then(.zero,4)
  else if (numM p.neg p.whole p.frac p.down (stripL p.power)).right=true then(numM p.neg p.whole p.frac p.down (stripL p.power),0) else(.zero,4)
theorem numM_exp(neg:Bool)(whole frac:Bs)(down:Bool)(power:Bs)(hp:power.all isDig=true)(hl:power.length≤9)(hw:whole.length+frac.length≤1000):
 (numM neg whole frac down power).digits.length≤1000∧-9223372036854775808≤(numM neg whole frac down power).exp∧(numM neg whole frac down power).exp≤9223372036854775807:=by
 have hb:=numOf_le power hp hl
 have h1:=stripL_le (whole++frac)
 have h2:=stripR_le (stripL (whole++frac))
 rw[List.length_append]at h1
 unfold numM
 simp only
 split
 ·simp[Dec.zero]
 ·refine ⟨by simp only;omega,?_,?_⟩<;>simp only<;>split<;>omega
theorem takeWhile_all(l:Bs):(l.takeWhile isDig).all isDig=true:=by
 induction l with
 |nil=>rfl
 |cons c l ih=>
  rw[List.takeWhile_cons]
  split
  ·rename_i h;rw[List.all_cons,h,ih];rfl
  ·rfl
theorem splitFin_power {p q:Parts} {d:Bool} {r:Bs} (h:splitFin p d r=some q):q.power.all isDig=true∧q.whole=p.whole∧q.frac=p.frac:=by
 unfold splitFin at h
 split at h
 ·rename_i hh;injection h with h;subst h;exact⟨hh.2,rfl,rfl⟩
 ·cases h
theorem splitExp_power {p q:Parts} {l:Bs} (h:splitExp p l=some q):q.power.all isDig=true∧q.whole=p.whole∧q.frac=p.frac:=by
 unfold splitExp at h
 split at h<;>exact splitFin_power h
theorem splitTail_power {p q:Parts} {l:Bs} (hp:p.power.all isDig=true)(h:splitTail p l=some q):q.power.all isDig=true∧q.whole=p.whole∧q.frac=p.frac:=by
 cases l with
 |nil=>unfold splitTail at h;injection h with h;subst h;exact⟨hp,rfl,rfl⟩
 |cons c l=>
  have h:(if c=101∨c=69 then splitExp p l else none)=some q:=h
  split at h
  ·exact splitExp_power h
  ·cases h
theorem splitM_parts {l:Bs} {q:Parts} (h:splitM l=some q):q.power.all isDig=true∧q.whole.all isDig=true∧q.frac.all isDig=true∧q.whole.length+q.frac.length≤l.length:=by
 have key: ∀(neg:Bool) (m:Bs),m.length≤l.length→splitWhole neg m=some q→q.power.all isDig=true∧q.whole.all isDig=true∧q.frac.all isDig=true∧q.whole.length+q.frac.length≤l.length:=by
  intro neg m hm hs
  have hlen:(m.takeWhile isDig).length+(m.dropWhile isDig).length=m.length:=by
   have:=congrArg List.length (List.takeWhile_append_dropWhile (p:=isDig) (l:=m))
   rwa [List.length_append]at this
  unfold splitWhole at hs
  simp only at hs
  split at hs
  ·cases hs
  ·unfold splitFrac at hs
   split at hs
   ·rename_i r hr
    have hlr:(m.dropWhile isDig).length=r.length+1:=by rw[hr];simp
    have hlen2:(r.takeWhile isDig).length≤r.length:=(List.takeWhile_prefix _).length_le
    split at hs
    ·cases hs
    ·obtain ⟨a,b,c⟩:=splitTail_power (by rfl) hs
     rw[b,c]
     exact⟨a,takeWhile_all m,takeWhile_all r,by simp only;omega⟩
   ·obtain ⟨a,b,c⟩:=splitTail_power (by rfl) hs
    rw[b,c]
    exact⟨a,takeWhile_all m,rfl,by simp only[List.length_nil];omega⟩
 unfold splitM at h
 split at h
 ·exact key _ _ (by rw[List.length_tail];omega) h
 ·exact key _ _ (Nat.le_refl _) h
theorem stripL_all {l:Bs} (h:l.all isDig=true):(stripL l).all isDig=true:=by
 unfold stripL Lib.trimLeftB
 rw[List.all_eq_true]at *
 intro x hx
 exact h x ((List.dropWhile_suffix _).subset hx)
theorem set_three {w1:World} {g:Nat} {t:TypeId} {x y z:Value} (hW:Whole w1 g t #[x,y,z])(a b c:Value)(o:Obj):
 Whole ((((w1.setCell ⟨g,0,none⟩ a).setCell ⟨g,1,none⟩ b).setCell ⟨g,2,none⟩ c).alloc o) g t #[a,b,c]:=by
 simpa using (((hW.put 0 a).put 1 b).put 2 c).alloc o
def ParsePost(R:Dec×Int)(w:World)(e:Ending)(w':World):Prop:=e= .returned (.tuple #[R.1.val,.int .i64 R.2])∧Below w.heap.size w w'
set_option maxHeartbeats 2000000 in
set_option maxRecDepth 1000000 in
theorem parse_any(s:ByteArray)(w:World)(hs:s.size≤1099511627776):
 Calls Tryz.prog 42 #[.string s] w (ParsePost (parseM s.data.toList) w):=by
 have HS:Hq (s.size≤maxLen):=hq (by unfold maxLen;omega)
 generalize hR:parseM s.data.toList=R
 have HR:=hq hR
 clear hR
 go_enter Tryz.func42,Tryz.ntmps42
 go_wp2_with fail
 refine(split_any s _ HS.o).mono ?_
 generalize hP:splitM s.data.toList=P
 rintro e w1 ⟨⟨v,rfl,hv⟩,hb1⟩
 have hW:=(Whole.made w 59 #[.bool false,.string (st []),.int .i64 0]).grow hb1
 have hb:Below w.heap.size w w1:=(below_alloc w (.cells #[.bool false,.string (st []),.int .i64 0] 59)).trans (hb1.mono (by rw[World.size_alloc];omega))
 clear hb1
 obtain⟨r0,r1,r2⟩:=three_cells hW
 have q0:=hW.free 0
 have q1:=hW.free 1
 have q2:=hW.free 2
 have hlt:=hW.lt
 rcases hv with ⟨⟨neg,whole,frac,down,power⟩,rfl,rfl⟩|⟨rfl,⟨neg,whole,frac,down,power⟩,rfl⟩
 ·simp only[Parts.val]
  have HQ:=hq (splitM_parts hP)
  simp only at HQ
  have hlen:whole.length+frac.length≤1099511627776:=by have:=HQ.o.2.2.2;rw[Array.length_toList]at this;exact Nat.le_trans this hs
  by_cases hk:1000<whole.length+frac.length
  ·have HN:Hq (R=(.zero,3)):=hq (by rw[←HR.o];unfold parseM;rw[hP];simp only[if_pos hk])
   clear HR hP HQ
   go_wp2_with fail
   refine bodyPost_ret (v:= .tuple #[Dec.zero.val,.int .i64 3]) ?_ rfl ?_
   ·obtain ⟨z0,z1,z2⟩:=three_cells (set_three hW (.bool false) (.string ⟨#[]⟩) (.int .i64 0) (.cells #[.bool neg,.string (st whole),.string (st frac),.bool down,.string (st power)] 86))
    simp[results,Tryz.results42,go_sem,z0,z1,z2,Dec.zero,Dec.val]
   ·exact ⟨by rw[HN.o],(((hb.setCell (p:=⟨w.heap.size,0,none⟩) (by simp) _).setCell (p:=⟨w.heap.size,1,none⟩) (by simp) _).setCell (p:=⟨w.heap.size,2,none⟩) (by simp) _).alloc (by simp;omega) _⟩
  ·have HP2:Hq (R=if 9<(stripL power).length then(.zero,4) else if (numM neg whole frac down (stripL power)).right=true then(numM neg whole frac down (stripL power),0) else(.zero,4)):=hq (by
    rw[←HR.o];unfold parseM;rw[hP];simp only[if_neg hk])
   clear HR hP
   have HA:=hq (stripL_all HQ.o.1)
   clear HQ
   go_wp2_with fail
   refine(Tryz.strings_TrimLeft_one (st power) 48 (by decide) _).mono ?_
   rw[st_list,show Lib.trimLeftB power 48=stripL power from rfl]
   generalize stripL power=PW at *
   rintro e w2 ⟨rfl,hw2⟩
   obtain rfl:=hw2.symm
   by_cases h9:9<PW.length
   ·have HN:Hq (R=(.zero,4)):=hq (by rw[HP2.o,if_pos h9])
    clear HP2
    go_wp2_with fail
    refine bodyPost_ret (v:= .tuple #[Dec.zero.val,.int .i64 4]) ?_ rfl ?_
    ·obtain ⟨z0,z1,z2⟩:=three_cells (set_three hW (.bool false) (.string ⟨#[]⟩) (.int .i64 0) (.cells #[.bool neg,.string (st whole),.string (st frac),.bool down,.string (st power)] 86))
     simp[results,Tryz.results42,go_sem,z0,z1,z2,Dec.zero,Dec.val]
    ·exact ⟨by rw[HN.o],(((hb.setCell (p:=⟨w.heap.size,0,none⟩) (by simp) _).setCell (p:=⟨w.heap.size,1,none⟩) (by simp) _).setCell (p:=⟨w.heap.size,2,none⟩) (by simp) _).alloc (by simp;omega) _⟩
   ·have HP3:Hq (R=if (numM neg whole frac down PW).right=true then(numM neg whole frac down PW,0) else(.zero,4)):=hq (by rw[HP2.o,if_neg h9])
    clear HP2
    have hex:=numM_exp neg whole frac down PW HA.o (by omega) (by omega)
    go_wp2_with fail
    refine(number_any neg whole frac down _ PW _ HA.o (by omega) hlen).mono ?_
    generalize numM neg whole frac down PW=D at *
    rintro e w2 ⟨rfl,hb2⟩
    obtain⟨dn,DD,DE⟩:=D
    simp only[Dec.val]at *
    have hW2:=(hW.alloc (.cells #[.bool neg,.string (st whole),.string (st frac),.bool down,.string (st power)] 86)).grow hb2
    have hb3:Below w.heap.size w w2:=(hb.alloc (by omega) _).trans (hb2.mono (by rw[World.size_alloc];omega))
    clear hb2
    go_wp2_with fail
    refine(right_any dn DD DE _ (by omega) hex.2).mono ?_
    generalize Dec.right ⟨dn,DD,DE⟩=B at *
    rintro e w3 ⟨rfl,hbA⟩
    have hW3:=(hW2.alloc (.cells #[.bool dn,.string (st DD),.int .i64 DE] 59)).grow hbA
    have hN3:=(Whole.made w2 59 #[.bool dn,.string (st DD),.int .i64 DE]).grow hbA
    have hb4:Below w.heap.size w w3:=(hb3.alloc (by have:=hb3.size;omega) _).trans (hbA.mono (by rw[World.size_alloc];have:=hb3.size;omega))
    have hlt3:=hN3.lt
    have hlt2:=hb3.size
    clear hbA hb3 hW2 hex hb r0 r1 r2 q0 q1 q2 hW
    obtain⟨r0,r1,r2⟩:=three_cells hW3
    obtain⟨n0,n1,n2⟩:=three_cells hN3
    have q0:=hW3.free 0
    have q1:=hW3.free 1
    have q2:=hW3.free 2
    cases B with
    |true=>
     have HN:Hq (R=(⟨dn,DD,DE⟩,0)):=hq (by rw[HP3.o,if_pos rfl])
     clear HP3
     go_wp2_with fail
     refine bodyPost_ret (v:= .tuple #[(Dec.mk dn DD DE).val,.int .i64 0]) ?_ rfl ?_
     ·obtain ⟨z0,z1,z2⟩:=three_cells (by simpa using (((hW3.put 0 (.bool dn)).put 1 (.string (st DD))).put 2 (.int .i64 DE)))
      simp[results,Tryz.results42,go_sem,z0,z1,z2,Dec.val]
     ·exact ⟨by rw[HN.o],((hb4.setCell (p:=⟨w.heap.size,0,none⟩) (by simp) _).setCell (p:=⟨w.heap.size,1,none⟩) (by simp) _).setCell (p:=⟨w.heap.size,2,none⟩) (by simp) _⟩
    |false=>
     have HN:Hq (R=(.zero,4)):=hq (by rw[HP3.o,if_neg (by simp)])
     clear HP3
     go_wp2_with fail
     refine bodyPost_ret (v:= .tuple #[Dec.zero.val,.int .i64 4]) ?_ rfl ?_
     ·simp[results,Tryz.results42,go_sem,r0,r1,r2,Dec.zero,Dec.val]
     ·exact ⟨by rw[HN.o],((hb4.setCell (p:=⟨w.heap.size,0,none⟩) (by simp) _).setCell (p:=⟨w.heap.size,1,none⟩) (by simp) _).setCell (p:=⟨w.heap.size,2,none⟩) (by simp) _⟩
 ·have HN:Hq (R=(.zero,2)):=hq (by rw[←HR.o];unfold parseM;rw[hP])
  clear HR hP
  simp only[Parts.val]
  go_wp2_with fail
  refine bodyPost_ret (v:= .tuple #[Dec.zero.val,.int .i64 2]) ?_ rfl ?_
  ·obtain ⟨z0,z1,z2⟩:=three_cells (set_three hW (.bool false) (.string ⟨#[]⟩) (.int .i64 0) (.cells #[.bool neg,.string (st whole),.string (st frac),.bool down,.string (st power)] 86))
   simp[results,Tryz.results42,go_sem,z0,z1,z2,Dec.zero,Dec.val]
  ·exact ⟨by rw[HN.o],(((hb.setCell (p:=⟨w.heap.size,0,none⟩) (by simp) _).setCell (p:=⟨w.heap.size,1,none⟩) (by simp) _).setCell (p:=⟨w.heap.size,2,none⟩) (by simp) _).alloc (by simp;omega) _⟩
def notE(c:UInt8):Bool:=!(c==101||c==69)
def notPt(c:UInt8):Bool:=!(c==46)
def digs(l:Bs):Bool:=decide (l≠ []∧l.all isDig=true)
def rexp:Bs→Bool×Bs
 | []=>(false,[48])
 |_::r=>if (r.head?==some 45)=true then(true,r.tail) else(false,if (r.head?==some 43)=true then r.tail else r)
def rrest:Bs→Bs
 | []=> [48]
 |_::r=>r
def rfrac:Bs→Bs
 | []=> []
 |_::r=>r
structure RParts where
 neg:Bool
 whole:Bs
 frac:Bs
 down:Bool
 exp:Bs
 ok:Bool
def wholeOk(w:Bs):Bool:=decide (w=[48]∨w.head?≠some 48)
def rpartsW(neg:Bool)(m:Bs):RParts:=
 let mant:=m.takeWhile notE
 let tl:=m.dropWhile notE
 let whole:=mant.takeWhile notPt
 let pt:=mant.dropWhile notPt
 ⟨neg,whole,rfrac pt,(rexp tl).1,(rexp tl).2,digs whole&&digs (rrest pt)&&digs (rexp tl).2&&wholeOk whole⟩
def rpartsM(l:Bs):RParts:=if (l.head?==some 45)=true then rpartsW true l.tail else rpartsW false l
def SamePow(x pw:Bs):Prop:=pw=x∨(x=[48]∧pw=[])
def Fits(r:RParts)(o:Option Parts):Prop:=
 (r.ok=false∧o=none)∨(r.ok=true∧ ∃pw,o=some ⟨r.neg,r.whole,r.frac,r.down,pw⟩∧SamePow r.exp pw)
theorem dig_notE {c:UInt8} (h:isDig c=true):notE c=true∧notPt c=true:=by
 unfold isDig at h
 simp only[Bool.and_eq_true,decide_eq_true_eq]at h
 unfold notE notPt
 constructor
 ·cases h1:(c==101||c==69) with
  |false=>rfl
  |true=>
   simp only[Bool.or_eq_true,beq_iff_eq]at h1
   rcases h1 with h1|h1<;>(rw[h1]at h;simp at h)
 ·cases h1:(c==46) with
  |false=>rfl
  |true=>
   simp only[beq_iff_eq]at h1
   rw[h1]at h;simp at h
theorem tw_append {p:UInt8→Bool} {a:Bs} (b:Bs)(h:a.all p=true):(a++b).takeWhile p=a++b.takeWhile p∧(a++b).dropWhile p=b.dropWhile p:=by
 induction a with
 |nil=>exact⟨rfl,rfl⟩
 |cons c a ih=>
  simp only[List.all_cons,Bool.and_eq_true]at h
  obtain⟨h1,h2⟩:=ih h.2
  exact⟨by rw[List.cons_append,List.takeWhile_cons,if_pos h.1,h1];rfl,by rw[List.cons_append,List.dropWhile_cons,if_pos h.1,h2]⟩
theorem all_imp {p q:UInt8→Bool} {a:Bs} (h: ∀c,p c=true→q c=true)(ha:a.all p=true):a.all q=true:=by
 rw[List.all_eq_true]at *
 exact fun x hx=>h x (ha x hx)
theorem head_drop {p:UInt8→Bool} (l:Bs) {c:UInt8} {r:Bs} (h:l.dropWhile p=c::r):p c=false:=by
 induction l with
 |nil=>cases h
 |cons x l ih=>
  rw[List.dropWhile_cons]at h
  split at h
  ·exact ih h
  ·rename_i hx
   injection h with h1 h2
   rw[←h1];simpa using hx
theorem digs_no {a b:Bs} {c:UInt8} (h:isDig c=false):digs (a++c::b)=false:=by
 unfold digs
 refine decide_eq_false (fun hh=> ?_)
 have:=hh.2
 rw[List.all_append,List.all_cons,h]at this
 simp at this
theorem wholeOk_eq(w:Bs)(h:w.all isDig=true):(digs w&&wholeOk w)=decide (¬(w=[]∨(1<w.length∧w.head?=some 48))):=by
 unfold digs wholeOk
 rw[←Bool.decide_and]
 refine decide_eq_decide.2 ?_
 cases w with
 |nil=>simp
 |cons c l=>
  cases l with
  |nil=>
   simp only[List.head?_cons,Option.some.injEq,List.length_cons,List.length_nil]
   constructor
   ·intro _ hh;rcases hh with hh|hh
    ·cases hh
    ·omega
   ·intro _
    refine⟨⟨by simp,h⟩,?_⟩
    by_cases hc:c=48
    ·left;rw[hc]
    ·right;simpa using hc
  |cons d l=>
   constructor
   ·rintro ⟨⟨_,_⟩,hh⟩ h2
    rcases h2 with h2|h2
    ·cases h2
    ·rcases hh with hh|hh
     ·injection hh with _ hh;cases hh
     ·exact hh h2.2
   ·intro hh
    refine⟨⟨by simp,h⟩,.inr (fun h2=>hh (.inr ⟨by simp,h2⟩))⟩
theorem splitExp_fits(p:Parts)(c:UInt8)(r:Bs):
 (digs (rexp (c::r)).2=false∧splitExp p r=none)∨(digs (rexp (c::r)).2=true∧splitExp p r=some {p with down:=(rexp (c::r)).1,power:=(rexp (c::r)).2}):=by
 have key: ∀(d:Bool) (x:Bs),(digs x=false∧splitFin p d x=none)∨(digs x=true∧splitFin p d x=some {p with down:=d,power:=x}):=by
  intro d x
  unfold digs splitFin
  by_cases h:x≠ []∧x.all isDig=true
  ·exact .inr ⟨decide_eq_true h,if_pos h⟩
  ·exact .inl ⟨decide_eq_false h,if_neg h⟩
 unfold splitExp rexp
 by_cases h:(r.head?==some 45)=true
 ·rw[if_pos h];simp only[h];exact key _ _
 ·rw[if_neg h];simp only[if_neg h];exact key _ _
theorem isE_of {c:UInt8} (h:notE c=false):c=101∨c=69:=by
 unfold notE at h
 cases hc:(c==101||c==69) with
 |false=>rw[hc]at h;cases h
 |true=>simpa only[Bool.or_eq_true,beq_iff_eq] using hc
theorem notE_of {c:UInt8} (h:notE c=true): ¬(c=101∨c=69):=by
 unfold notE at h
 simpa using h
theorem splitTail_fits(p:Parts)(hp:p.down=false∧p.power=[])(l:Bs)(hl: ∀c r,l=c::r→isDig c=false):
 (l.takeWhile notE=[]∧((digs (rexp (l.dropWhile notE)).2=false∧splitTail p l=none)∨(digs (rexp (l.dropWhile notE)).2=true∧ ∃pw,splitTail p l=some {p with down:=(rexp (l.dropWhile notE)).1,power:=pw}∧SamePow (rexp (l.dropWhile notE)).2 pw)))∨
 (∃c r,l.takeWhile notE=c::r∧isDig c=false∧l.head?=some c∧splitTail p l=none):=by
 cases l with
 |nil=>
  left
  refine⟨rfl,.inr ⟨by decide,[],?_,.inr ⟨rfl,rfl⟩⟩⟩
  obtain⟨a,b,c,d,e⟩:=p
  obtain⟨h1,h2⟩:=hp
  simp only at h1 h2
  subst h1;subst h2
  rfl
 |cons c r=>
  have hc:=hl c r rfl
  have e:splitTail p (c::r)=if c=101∨c=69 then splitExp p r else none:=rfl
  cases hE:notE c with
  |false=>
   left
   have h1:(c::r).dropWhile notE=c::r:=by rw[List.dropWhile_cons,if_neg (by rw[hE];simp)]
   rw[h1,e,if_pos (isE_of hE)]
   refine⟨by rw[List.takeWhile_cons,if_neg (by rw[hE];simp)],?_⟩
   rcases splitExp_fits p c r with h|h
   ·exact .inl h
   ·exact .inr ⟨h.1,_,h.2,.inl rfl⟩
  |true=>
   right
   exact⟨c,r.takeWhile notE,by rw[List.takeWhile_cons,if_pos hE],hc,rfl,by rw[e,if_neg (notE_of hE)]⟩
theorem nparts_whole(neg:Bool)(m:Bs):Fits (rpartsW neg m) (splitWhole neg m):=by
 have hA:=takeWhile_all m
 have hm:=List.takeWhile_append_dropWhile (p:=isDig) (l:=m)
 have hB: ∀c r,m.dropWhile isDig=c::r→isDig c=false:=fun c r h=>head_drop m h
 unfold splitWhole rpartsW
 simp only
 generalize m.takeWhile isDig=A at *
 generalize m.dropWhile isDig=B at *
 subst hm
 obtain⟨e1,e2⟩:=tw_append B (all_imp (q:=notE) (fun c h=>(dig_notE h).1) hA)
 rw[e1,e2]
 obtain⟨e3,e4⟩:=tw_append (B.takeWhile notE) (all_imp (q:=notPt) (fun c h=>(dig_notE h).2) hA)
 rw[e3,e4]
 have hw:=wholeOk_eq A hA
 have close: ∀(rest frac:Bs) (x:Bool×Bs) (o:Option Parts),
  ((digs rest&&digs x.2)=false∧o=none)∨((digs rest&&digs x.2)=true∧ ∃pw,o=some ⟨neg,A,frac,x.1,pw⟩∧SamePow x.2 pw)→
  Fits ⟨neg,A,frac,x.1,x.2,digs A&&digs rest&&digs x.2&&wholeOk A⟩ (if A=[]∨(1<A.length∧A.head?=some 48) then none else o):=by
  intro rest frac x o h
  have hb:(digs A&&digs rest&&digs x.2&&wholeOk A)=((digs A&&wholeOk A)&&(digs rest&&digs x.2)):=by
   cases digs A<;>cases digs rest<;>cases digs x.2<;>cases wholeOk A<;>rfl
  unfold Fits
  simp only[hb,hw]
  by_cases hbad:A=[]∨(1<A.length∧A.head?=some 48)
  ·rw[if_pos hbad,decide_eq_false (fun hh=>hh hbad)]
   exact .inl ⟨rfl,rfl⟩
  ·rw[if_neg hbad,decide_eq_true hbad]
   simpa using h
 have closeN: ∀(whole rest frac:Bs) (x:Bool×Bs) (o:Option Parts),digs whole=false→o=none→Fits ⟨neg,whole,frac,x.1,x.2,digs whole&&digs rest&&digs x.2&&wholeOk whole⟩ (if A=[]∨(1<A.length∧A.head?=some 48) then none else o):=by
  intro whole rest frac x o h ho
  refine .inl ⟨?_,?_⟩
  ·simp[h]
  ·rw[ho];split<;>rfl
 cases B with
 |nil=>
  simp only[List.takeWhile_nil,List.dropWhile_nil,List.append_nil]
  refine close _ _ _ _ (.inr ⟨by decide,[],rfl,.inr ⟨rfl,rfl⟩⟩)
 |cons c r=>
  have hc:=hB c r rfl
  by_cases h46:c=46
  ·subst h46
   have f1:(46::r).takeWhile notE=46::r.takeWhile notE:=by rw[List.takeWhile_cons];rfl
   have f2:(46::r).dropWhile notE=r.dropWhile notE:=by rw[List.dropWhile_cons];rfl
   have f3:(46::r.takeWhile notE).takeWhile notPt=[]:=by rw[List.takeWhile_cons];rfl
   have f4:(46::r.takeWhile notE).dropWhile notPt=46::r.takeWhile notE:=by rw[List.dropWhile_cons];rfl
   rw[f1,f2,f3,f4,List.append_nil]
   have hF:=takeWhile_all r
   have hr:=List.takeWhile_append_dropWhile (p:=isDig) (l:=r)
   have hG: ∀c t,r.dropWhile isDig=c::t→isDig c=false:=fun c t h=>head_drop r h
   unfold splitFrac
   simp only[rrest,rfrac]
   generalize r.takeWhile isDig=F at *
   generalize r.dropWhile isDig=G at *
   subst hr
   obtain⟨g1,g2⟩:=tw_append G (all_imp (q:=notE) (fun c h=>(dig_notE h).1) hF)
   rw[g1,g2]
   refine close _ _ _ _ ?_
   rcases splitTail_fits ⟨neg,A,F,false,[]⟩ ⟨rfl,rfl⟩ G hG with ⟨h1,h2⟩|⟨c,t,h1,h2,_,h3⟩
   ·rw[h1,List.append_nil]
    by_cases hF0:F=[]
    ·left
     rw[if_pos hF0,hF0]
     exact⟨by simp[digs],rfl⟩
    ·have hd:digs F=true:=decide_eq_true ⟨hF0,hF⟩
     rw[if_neg hF0,hd,Bool.true_and]
     exact h2
   ·left
    rw[h1,digs_no h2]
    refine⟨rfl,?_⟩
    split
    ·rfl
    ·exact h3
  ·have hsf:splitFrac ⟨neg,A,[],false,[]⟩ (c::r)=splitTail ⟨neg,A,[],false,[]⟩ (c::r):=by
    unfold splitFrac
    split
    ·rename_i heq;injection heq with heq _;exact absurd heq h46
    ·rfl
   rw[hsf]
   rcases splitTail_fits ⟨neg,A,[],false,[]⟩ ⟨rfl,rfl⟩ (c::r) (fun x y hxy=>hB x y hxy) with ⟨h1,h2⟩|⟨d,t,h1,h2,h0,h3⟩
   ·rw[h1]
    simp only[List.takeWhile_nil,List.dropWhile_nil,List.append_nil]
    refine close _ _ _ _ ?_
    rw[show digs (rrest [])=true by decide,Bool.true_and]
    exact h2
   ·injection h0 with h0
    subst h0
    have f5:notPt c=true:=by unfold notPt;simp[h46]
    rw[h1,List.takeWhile_cons,if_pos f5]
    exact closeN _ _ _ _ _ (digs_no h2) h3
theorem parts_fits(l:Bs):Fits (rpartsM l) (splitM l):=by
 unfold rpartsM splitM
 by_cases h:(l.head?==some 45)=true
 ·rw[if_pos h,if_pos h];exact nparts_whole _ _
 ·rw[if_neg h,if_neg h];exact nparts_whole _ _
def stripZ:Bs→Bs
 |a::b::l=>if a=48 then stripZ (b::l) else a::b::l
 |l=>l
def rnum(neg:Bool)(down:Bool)(x frac d:Bs):Dec×Int:=
 let s:=stripR d
 let e:=(if down then-numOf x else numOf x)-frac.length+d.length-s.length
 if d=[] then(.zero,0) else if e< -1000000∨1000000<e then(.zero,4) else(⟨neg,s,e⟩,0)
def rparseM(l:Bs):Dec×Int:=
 let p:=rpartsM l
 if p.ok=false then(.zero,2) else if 1000<p.whole.length+p.frac.length then(.zero,3)
 else if 9<(stripZ p.exp).length then(.zero,4) else rnum p.neg p.down (stripZ p.exp) p.frac (stripL (p.whole++p.frac))
theorem stripL_cons(c:UInt8)(l:Bs):stripL (c::l)=if c=48 then stripL l else c::l:=by
 unfold stripL Lib.trimLeftB
 rw[List.dropWhile_cons]
 by_cases h:c=48
 ·rw[if_pos h,if_pos (by simp[h])]
 ·rw[if_neg h,if_neg (by simp[h])]
theorem stripZ_nil: ∀l:Bs,stripL l=[]→stripZ l=if l=[] then [] else [48]
 | [],_=>rfl
 | [a],h=>by
   rw[stripL_cons]at h
   split at h
   ·rename_i h1;subst h1;rfl
   ·cases h
 |a::b::l,h=>by
  rw[stripL_cons]at h
  split at h
  ·rename_i h1
   have:=stripZ_nil (b::l) h
   simp only[stripZ,if_pos h1,this]
   rfl
  ·cases h
theorem stripZ_not: ∀l:Bs,stripL l≠ []→stripZ l=stripL l
 | [],h=>absurd rfl h
 | [a],h=>by
   rw[stripL_cons]at h ⊢
   split
   ·rename_i h1;rw[if_pos h1]at h;exact absurd rfl h
   ·rfl
 |a::b::l,h=>by
  rw[stripL_cons]at h ⊢
  simp only[stripZ]
  by_cases h1:a=48
  ·rw[if_pos h1]at h ⊢
   rw[if_pos h1]
   exact stripZ_not (b::l) h
  ·rw[if_neg h1,if_neg h1]
theorem samePow_strip {x pw:Bs} (h:SamePow x pw):numOf (stripZ x)=numOf (stripL pw)∧(9<(stripZ x).length↔9<(stripL pw).length):=by
 rcases h with rfl|⟨rfl,rfl⟩
 ·by_cases hs:stripL pw=[]
  ·rw[stripZ_nil _ hs,hs]
   split
   ·exact ⟨rfl,Iff.rfl⟩
   ·exact ⟨rfl,by simp⟩
  ·rw[stripZ_not _ hs]
   exact⟨rfl,Iff.rfl⟩
 ·exact ⟨rfl,by simp[stripZ,stripL,Lib.trimLeftB]⟩
theorem stripL_head: ∀l:Bs,(stripL l).head?≠some 48
 | []=>by simp[stripL,Lib.trimLeftB]
 |c::l=>by
  rw[stripL_cons]
  split
  ·exact stripL_head l
  ·rename_i h;simpa using h
theorem mem_tw {p:UInt8→Bool}: ∀ {l:Bs} {x:UInt8},x∈l.takeWhile p→p x=true
 | [],x,h=>by simp at h
 |c::l,x,h=>by
  rw[List.takeWhile_cons]at h
  split at h
  ·rename_i hc
   rcases List.mem_cons.1 h with h|h
   ·rw[h];exact hc
   ·exact mem_tw h
  ·simp at h
theorem stripR_ne {d:Bs} (h:d≠ [])(hh:d.head?≠some 48):stripR d≠ []:=by
 intro h2
 cases d with
 |nil=>exact h rfl
 |cons c l=>
  have h3:c≠48:=by simpa using hh
  unfold stripR Lib.trimRightB at h2
  have h4:((c::l).reverse.dropWhile fun x=>x==48)=[]:=by
   have:=congrArg List.reverse h2
   rwa [List.reverse_reverse]at this
  have h6:=List.takeWhile_append_dropWhile (p:=fun x:UInt8=>x==48) (l:=(c::l).reverse)
  rw[h4,List.append_nil]at h6
  have h5:c∈(c::l).reverse.takeWhile fun x=>x==48:=by rw[h6];simp
  have h7:=mem_tw h5
  exact h3 (by simpa using h7)
theorem rnum_right(neg down:Bool)(whole frac pw x:Bs)(hx:numOf x=numOf pw)(hw:(whole++frac).all isDig=true)(hl:whole.length+frac.length≤1000):
 rnum neg down x frac (stripL (whole++frac))=(if (numM neg whole frac down pw).right=true then(numM neg whole frac down pw,0) else(.zero,4)):=by
 have hh:=stripL_head (whole++frac)
 have hle:=stripL_le (whole++frac)
 have hda:=stripL_all hw
 rw[List.length_append]at hle
 unfold rnum numM
 simp only
 generalize stripL (whole++frac)=d at *
 rw[hx]
 generalize hE:(if down=true then -numOf pw else numOf pw)-(frac.length:Int)+(d.length:Int)-((stripR d).length:Int)=e
 by_cases h0:d=[]
 ·rw[if_pos h0]
  have:stripR d=[]:=by rw[h0];rfl
  rw[if_pos this]
  rfl
 ·rw[if_neg h0]
  have hs:=stripR_ne h0 hh
  obtain⟨t,ht⟩:=stripR_pre d
  have hlast:=stripR_last d
  rw[if_neg hs]
  have hlen:=congrArg List.length ht
  rw[List.length_append]at hlen
  generalize stripR d=s at *
  have hsd:s.all isDig=true:=by rw[ht,List.all_append,Bool.and_eq_true]at hda;exact hda.1
  have hsh:s.head?≠some 48:=by
   cases s with
   |nil=>exact absurd rfl hs
   |cons c l=>rw[ht]at hh;exact hh
  have hp:=List.length_pos_iff.2 hs
  have hr:(Dec.mk neg s e).right=decide (-1000000≤e∧e≤1000000):=by
   unfold Dec.right
   rw[if_neg (fun h=>hs (congrArg Dec.digits h)),if_neg,if_neg]
   ·unfold Dec.nought0;exact fun h=>h.elim hsh hlast
   ·unfold Dec.bad
    rintro (h|h|h)
    ·simp only at h;omega
    ·simp only at h;omega
    ·simp only at h;rw[hsd]at h;cases h
  by_cases hb:e< -1000000∨1000000<e
  ·rw[if_pos hb,hr,decide_eq_false (by omega)]
   rfl
  ·rw[if_neg hb,hr,decide_eq_true (by omega)]
   rfl
theorem rparseM_eq(l:Bs):rparseM l=parseM l:=by
 have hf:=parts_fits l
 have hq:= @splitM_parts l
 unfold rparseM parseM
 generalize rpartsM l=r at *
 generalize splitM l=o at *
 rcases hf with ⟨h1,h2⟩|⟨h1,pw,h2,h3⟩
 ·subst h2
  simp only[h1]
  rfl
 ·subst h2
  obtain⟨h4,h5⟩:=samePow_strip h3
  obtain⟨q1,q2,q3,q4⟩:=hq rfl
  simp only[h1]at *
  rw[if_neg (by simp)]
  by_cases hk:1000<r.whole.length+r.frac.length
  ·rw[if_pos hk,if_pos hk]
  ·rw[if_neg hk,if_neg hk]
   by_cases h9:9<(stripL pw).length
   ·rw[if_pos h9,if_pos (h5.2 h9)]
   ·rw[if_neg h9,if_neg (fun h=>h9 (h5.1 h))]
    exact rnum_right _ _ _ _ _ _ h4 (by rw[List.all_append,q2,q3];rfl) (by omega)
def Dec.sign(d:Dec):Int:=if d= .zero then 0 else if d.neg=true then -1 else 1
def sizeM(a b:Dec):Int:=
 if (a.digits.length:Int)+a.exp<b.digits.length+b.exp then -1
 else if (b.digits.length:Int)+b.exp<a.digits.length+a.exp then 1
 else Lib.compareBytes a.digits b.digits
def rankM(b:Bool):Int:=if b then 1 else 0
def compareM(a b:Dec):Int:=
 if (a.right&&b.right)=true then
  if a.sign=b.sign then a.sign*sizeM a b else if a.sign<b.sign then -1 else 1
 else rankM a.right-rankM b.right
def Twin(w:World)(na:Bool)(DA:Bs)(EA:Int)(nb:Bool)(DB:Bs)(EB:Int)(W:World):Prop:=
 (Below w.heap.size w W∧Whole W w.heap.size 59 #[.bool na,.string (st DA),.int .i64 EA]∧Whole W (w.heap.size+1) 59 #[.bool nb,.string (st DB),.int .i64 EB])
theorem Twin.grow {w:World} {na:Bool} {DA:Bs} {EA:Int} {nb:Bool} {DB:Bs} {EB:Int} {W W':World} (h:Twin w na DA EA nb DB EB W)(hb:Below W.heap.size W W'):Twin w na DA EA nb DB EB W':=
 ⟨below_trans h.1 hb,h.2.1.grow hb,h.2.2.grow hb⟩
theorem Twin.drew {w:World} {na:Bool} {DA:Bs} {EA:Int} {nb:Bool} {DB:Bs} {EB:Int} {W:World} (h:Twin w na DA EA nb DB EB W):Twin w na DA EA nb DB EB W.drew:=⟨h.1.drew,h.2.1,h.2.2⟩
theorem Twin.cells {w:World} {na:Bool} {DA:Bs} {EA:Int} {nb:Bool} {DB:Bs} {EB:Int} {W:World} (h:Twin w na DA EA nb DB EB W):
 W.cell? ⟨w.heap.size,0,none⟩=some (.bool na)∧W.cell? ⟨w.heap.size,1,none⟩=some (.string (st DA))∧W.cell? ⟨w.heap.size,2,none⟩=some (.int .i64 EA)∧
 W.cell? ⟨w.heap.size+1,0,none⟩=some (.bool nb)∧W.cell? ⟨w.heap.size+1,1,none⟩=some (.string (st DB))∧W.cell? ⟨w.heap.size+1,2,none⟩=some (.int .i64 EB):=by
 obtain⟨c0,c1,c2⟩:=three_cells h.2.1
 obtain⟨d0,d1,d2⟩:=three_cells h.2.2
 exact⟨c0,c1,c2,d0,d1,d2⟩
theorem right_bd {n:Bool} {D:Bs} {E:Int} (h:Dec.right ⟨n,D,E⟩=true):D.length≤1000∧-1000000≤E∧E≤1000000:=by
 unfold Dec.right at h
 split at h
 ·rename_i hz
  have h1:=congrArg Dec.digits hz
  have h2:=congrArg Dec.exp hz
  simp only[Dec.zero]at h1 h2
  rw[h1,h2]
  exact⟨by simp,by omega,by omega⟩
 ·split at h
  ·cases h
  ·rename_i hb
   split at h
   ·cases h
   ·have:=of_decide_eq_true h
    unfold Dec.bad at hb
    exact⟨by simp only[not_or]at hb;omega,this.1,this.2⟩
set_option maxHeartbeats 400000 in
set_option maxRecDepth 1000000 in
theorem rdigits_any(l:Bs)(w:World)(hl:l.length≤1099511627776):
 Calls Tryz.prog 132 #[.string (st l)] w fun e w'=>e= .returned (.bool (decide (l≠ []∧l.all isDig=true)))∧w'=w:=by
 generalize hR:decide (l≠ []∧l.all isDig=true)=R
 have HR:=hq hR
 clear hR
 go_enter Tryz.func132,Tryz.ntmps132
 go_wp2
 go_loop [3] (fun a=> ∃k:Nat,a= .int .i64 k∧k≤l.length∧Hq ((l.take k).all isDig=true)) (fun a=>l.length-(intOf a).toNat)
 case atStart=>exact⟨0,rfl,by omega,hq rfl⟩
 case round=>
  obtain⟨k,rfl,hk,hd⟩:=hrel
  by_cases hlt:k<l.length
  ·have hz:k<(st l).size:=by rw[st_size];exact hlt
   have hstep:Hq ((l.take (k+1)).all isDig=(decide (48≤((st l)[k]'hz).toNat)&&decide (((st l)[k]'hz).toNat≤57))):=hq (by
    rw[List.take_succ_eq_append_getElem hlt,List.all_append,hd.o,Bool.true_and,List.all_cons,List.all_nil,Bool.and_true]
    rfl)
   have hno:Hq ((l.take (k+1)).all isDig=false→R=false):=hq (fun h=>by
    rw[←HR.o]
    refine decide_eq_false (fun hh=> ?_)
    have:=List.all_eq_true.1 hh.2
    rw[List.all_eq_false]at h
    obtain⟨y,hy,hy2⟩:=h
    exact hy2 (this y (List.mem_of_mem_take hy)))
   generalize hx:((st l)[k]'hz).toNat=x at hstep
   have hy:(((st l)[k]'hz).toNat:Int)=(x:Int):=by rw[hx]
   clear hx
   by_cases g1:48≤x
   ·by_cases g2:x≤57
    ·have hnext:Hq ((l.take (k+1)).all isDig=true):=hq (by rw[hstep.o];simp[g1,g2])
     clear hstep hno hd
     go_wp2
     go_round
     case rel=>exact⟨k+1,rfl,by omega,hnext⟩
     case measure=>simp[intOf];omega
    ·have HN:=hq (hno.o (by rw[hstep.o];simp[g2]))
     clear hstep hno hd
     go_wp2
     go_ret
     exact⟨by rw[HN.o];rfl,rfl⟩
   ·have HN:=hq (hno.o (by rw[hstep.o];simp[g1]))
    clear hstep hno hd
    go_wp2
    go_ret
    exact⟨by rw[HN.o];rfl,rfl⟩
  ·have hkl:k=l.length:=by omega
   have HN:Hq (R=decide (0<l.length)):=hq (by
    rw[←HR.o]
    have:=hd.o
    rw[hkl,List.take_length]at this
    refine decide_eq_decide.2 ⟨fun h=> ?_,fun h=>⟨fun h2=> ?_,this⟩⟩
    ·exact List.length_pos_iff.2 h.1
    ·rw[h2]at h;simp at h)
   clear hd
   go_wp2
   go_ret
   exact⟨by rw[HN.o];rfl,rfl⟩
set_option maxHeartbeats 400000 in
set_option maxRecDepth 1000000 in
theorem rnought_any(neg:Bool)(D:Bs)(E:Int)(w:World):
 Calls Tryz.prog 87 #[.agg #[.bool neg,.string (st D),.int .i64 E]] w fun e w'=>e= .returned (.bool (decide (Dec.mk neg D E= .zero)))∧Below w.heap.size w w':=by
 have heq:=eq_num neg D E
 have hb:=below_alloc w (.cells #[.bool neg,.string (st D),.int .i64 E] 59)
 generalize decide (Dec.mk neg D E= .zero)=B at *
 go_enter Tryz.func87,Tryz.ntmps87
 go_wp2_with fail
 go_ret
 exact⟨rfl,hb⟩
set_option maxHeartbeats 400000 in
set_option maxRecDepth 1000000 in
theorem rright_any(neg:Bool)(D:Bs)(E:Int)(w:World)(hD:D.length≤1099511627776)(hE:-9223372036854775808≤E∧E≤9223372036854775807):
 Calls Tryz.prog 86 #[.agg #[.bool neg,.string (st D),.int .i64 E]] w fun e w'=>e= .returned (.bool (Dec.right ⟨neg,D,E⟩))∧Below w.heap.size w w':=by
 generalize hR:Dec.right ⟨neg,D,E⟩=R
 have HR:=hq hR
 clear hR
 go_enter Tryz.func86,Tryz.ntmps86
 go_wp2_with fail
 refine(rnought_any neg D E _).mono ?_
 rintro e w1 ⟨rfl,hb1⟩
 have hb:=(below_alloc w (.cells #[.bool neg,.string (st D),.int .i64 E] 59)).trans (hb1.mono (by rw[World.size_alloc];omega))
 have hW:=(Whole.made w 59 #[.bool neg,.string (st D),.int .i64 E]).grow hb1
 clear hb1
 obtain⟨c0,c1,c2⟩:=three_cells hW
 by_cases hz:Dec.mk neg D E= .zero
 ·rw[decide_eq_true hz]
  have HN:Hq (R=true):=hq (by rw[←HR.o];unfold Dec.right;exact if_pos hz)
  clear HR hz
  go_wp2_with fail
  go_ret
  exact⟨by rw[HN.o];rfl,hb⟩
 ·rw[decide_eq_false hz]
  have HR2:Hq (R=if Dec.bad D then false else if Dec.nought0 D then false else decide (-1000000≤E∧E≤1000000)):=hq (by rw[←HR.o];unfold Dec.right;rw[if_neg hz])
  clear HR hz
  go_wp2_with fail
  refine(rdigits_any D _ hD).mono ?_
  by_cases hok:D≠ []∧D.all isDig=true
  ·rw[decide_eq_true hok]
   rintro e w2 ⟨rfl,hw2⟩
   obtain rfl:=hw2.symm
   have hp:0<D.length:=List.length_pos_iff.2 hok.1
   by_cases hk:D.length≤1000
   ·have HR3:Hq (R=if Dec.nought0 D then false else decide (-1000000≤E∧E≤1000000)):=hq (HR2.o.trans (if_neg (by
     unfold Dec.bad
     rintro (h|h|h)
     ·omega
     ·omega
     ·rw[hok.2]at h;cases h)))
    have hz0:0<(st D).size:=by rw[st_size];exact hp
    have hz1:D.length-1<(st D).size:=by rw[st_size];omega
    have hno:Hq (Dec.nought0 D↔((st D)[0]'hz0).toNat=48∨((st D)[D.length-1]'hz1).toNat=48):=hq (by
     have h1:D.head?=some D[0]:=by rw[List.head?_eq_getElem?,List.getElem?_eq_getElem hp]
     have h2:D.getLast?=some (D[D.length-1]'(by omega)):=by rw[List.getLast?_eq_getElem?,List.getElem?_eq_getElem (by omega)]
     unfold Dec.nought0
     rw[h1,h2]
     have e1:((st D)[0]'hz0)=D[0]:=rfl
     have e2:((st D)[D.length-1]'hz1)=D[D.length-1]'(by omega):=rfl
     rw[e1,e2]
     simp only[Option.some.injEq,←UInt8.toNat_inj]
     rfl)
    generalize hx0:((st D)[0]'hz0).toNat=x0 at hno
    generalize hx1:((st D)[D.length-1]'hz1).toNat=x1 at hno
    have hy0:(((st D)[0]'hz0).toNat:Int)=(x0:Int):=by rw[hx0]
    have hy1:(((st D)[D.length-1]'hz1).toNat:Int)=(x1:Int):=by rw[hx1]
    clear hx0 hx1 HR2 hok
    by_cases g0:x0=48
    ·have HN:=hq (HR3.o.trans (if_pos (hno.o.2 (.inl g0))))
     have e0:((x0:Int) !=48)=false:=by rw[g0];rfl
     clear g0 HR3 hno
     go_wp2_with fail
     go_ret
     exact⟨by rw[HN.o];rfl,hb⟩
    ·have e0:((x0:Int) !=48)=true:=bne_iff_ne.2 (by omega)
     by_cases g1:x1=48
     ·have HN:=hq (HR3.o.trans (if_pos (hno.o.2 (.inr g1))))
      have e1:((x1:Int) !=48)=false:=by rw[g1];rfl
      clear g0 g1 HR3 hno
      go_wp2_with fail
      go_ret
      exact⟨by rw[HN.o];rfl,hb⟩
     ·have HR4:=hq (HR3.o.trans (if_neg (fun h=>(hno.o.1 h).elim g0 g1)))
      have e1:((x1:Int) !=48)=true:=bne_iff_ne.2 (by omega)
      clear g0 g1 HR3 hno
      by_cases g1:-1000000≤E
      ·by_cases g2:E≤1000000
       ·have HF:Hq (R=true):=hq (by rw[HR4.o];exact decide_eq_true ⟨g1,g2⟩)
        clear HR4
        go_wp2_with fail
        go_ret
        exact⟨by rw[HF.o];rfl,hb⟩
       ·have HF:Hq (R=decide (E≤1000000)):=hq (by rw[HR4.o];exact decide_eq_decide.2 ⟨fun h=>h.2,fun h=>⟨g1,h⟩⟩)
        clear HR4
        go_wp2_with fail
        go_ret
        exact⟨by rw[HF.o];rfl,hb⟩
      ·have HF:Hq (R=false):=hq (by rw[HR4.o];exact decide_eq_false (fun h=>g1 h.1))
       clear HR4
       go_wp2_with fail
       go_ret
       exact⟨by rw[HF.o];rfl,hb⟩
   ·have HN:=hq (HR2.o.trans (if_pos (.inr (.inl (by omega)))))
    clear HR2 hok
    go_wp2_with fail
    go_ret
    exact⟨by rw[HN.o];rfl,hb⟩
  ·rw[decide_eq_false hok]
   rintro e w2 ⟨rfl,hw2⟩
   obtain rfl:=hw2.symm
   have HN:Hq (R=false):=hq (HR2.o.trans (if_pos (by
    unfold Dec.bad
    by_cases h:D=[]
    ·left;rw[h];simp
    ·right;right
     cases hh:D.all isDig with
     |true=>exact absurd ⟨h,hh⟩ hok
     |false=>rfl)))
   clear HR2 hok
   go_wp2_with fail
   go_ret
   exact⟨by rw[HN.o];rfl,hb⟩
def rcmp(a b:Bs):Nat→Nat→Int
 |0,_=>0
 |f+1,i=>
  if i<a.length∨i<b.length then
   if (a[i]?.getD 48).toNat<(b[i]?.getD 48).toNat then -1
   else if (b[i]?.getD 48).toNat<(a[i]?.getD 48).toNat then 1
   else rcmp a b f (i+1)
  else 0
def rsizeM(a b:Dec):Int:=
 if a.digits=[]∨b.digits=[] then(min a.digits.length 1:Nat)-(min b.digits.length 1:Nat)
 else if (a.digits.length:Int)+a.exp=b.digits.length+b.exp then rcmp a.digits b.digits (a.digits.length+b.digits.length+1) 0
 else if (a.digits.length:Int)+a.exp<b.digits.length+b.exp then -1 else 1
theorem right_dig {d:Dec} (h:d.right=true)(hz:d≠ .zero):d.digits≠ []∧d.digits.all isDig=true∧d.digits.getLast?≠some 48:=by
 unfold Dec.right at h
 rw[if_neg hz]at h
 split at h
 ·cases h
 ·rename_i hb
  split at h
  ·cases h
  ·rename_i hn
   unfold Dec.bad at hb
   unfold Dec.nought0 at hn
   simp only[not_or]at hb hn
   refine⟨fun hh=> ?_,by simpa using hb.2.2,hn.2⟩
   have:=hb.1
   rw[hh]at this
   simp at this
def rcompareM(a b:Dec):Int:=
 if (a.right&&b.right)=true then
  if a.neg=b.neg then(if a.neg=true then rsizeM b a else rsizeM a b) else if a.neg=true then -1 else 1
 else if a.right=true then 1 else if b.right=true then -1 else 0
def Dec.mag(N:Nat)(d:Dec):Int:=numOf d.digits*10^(d.exp+N).toNat
def Dec.at_(N:Nat)(d:Dec):Int:=if d.neg=true then-d.mag N else d.mag N
def ofM(n:Int):Dec:=numM (decide (n<0)) (Lib.decDigits n.natAbs) [] false []
def intV(neg:Bool)(v:Int):Int×Bool:=
 if neg=true then(if v≤9223372036854775808 then(-v,true) else(0,false)) else(if v≤9223372036854775807 then(v,true) else(0,false))
def intM(d:Dec):Int×Bool:=
 if d.right=true∧0≤d.exp∧d.digits.length+d.exp≤19 then intV d.neg (numOf (d.digits++List.replicate d.exp.toNat 48)) else(0,false)
theorem intV_t(v:Int):intV true v=if v≤9223372036854775808 then(-v,true) else(0,false):=rfl
theorem intV_f(v:Int):intV false v=if v≤9223372036854775807 then(v,true) else(0,false):=rfl
theorem parseUintM_dig: ∀(l:Bs) (acc:Nat),l.all isDig=true→acc<10^(19-l.length)→l.length≤19→
 Lib.parseUintM (2^64-1) acc l= .ok (acc*10^l.length+(numOf l).toNat)
 | [],acc,_,_,_=>by simp[Lib.parseUintM,numOf]
 |c::l,acc,h,ha,hl=>by
  rw[List.all_cons,Bool.and_eq_true]at h
  have hc:=h.1
  unfold isDig at hc
  simp only[Bool.and_eq_true,decide_eq_true_eq]at hc
  rw[List.length_cons]at ha hl
  have h18:10^(19-(l.length+1))≤10^18:=Nat.pow_le_pow_right (by omega) (by omega)
  have e18:(10:Nat)^18=1000000000000000000:=by decide
  have hs:10^(19-l.length)=10*10^(19-(l.length+1)):=by
   rw[show 19-l.length=(19-(l.length+1))+1 by omega,Nat.pow_succ,Nat.mul_comm]
  have ih:=parseUintM_dig l (acc*10+(c.toNat-48)) h.2 (by rw[hs];omega) (by omega)
  unfold Lib.parseUintM
  rw[if_pos hc,if_neg (by omega),if_neg (by omega),ih]
  congr 1
  have hb:=(numOf_bd l h.2).1
  rw[numOf_cons,List.length_cons,Nat.pow_succ]
  have hp:(((c.toNat:Int)-48)*10^l.length+numOf l).toNat=(c.toNat-48)*10^l.length+(numOf l).toNat:=by
   have e1:((c.toNat:Int)-48)=((c.toNat-48:Nat):Int):=by omega
   have e2:((10:Int)^l.length)=((10^l.length:Nat):Int):=by simp
   rw[e1,e2,←Int.natCast_mul]
   omega
  rw[hp,Nat.add_mul,Nat.mul_assoc,Nat.mul_comm 10 _]
  omega
theorem parseIntB_dig(neg:Bool)(l:Bs)(h:l.all isDig=true)(hl:l.length≤19)(h0:l≠ []):
 Lib.parseIntB 64 ((if neg=true then [45] else [])++l)=if (intV neg (numOf l)).2=true then .ok (intV neg (numOf l)).1 else .range:=by
 have hp:=parseUintM_dig l 0 h (Nat.pow_pos (by omega)) hl
 rw[Nat.zero_mul,Nat.zero_add]at hp
 have hu:Lib.parseUintB 64 l= .ok (numOf l).toNat:=by unfold Lib.parseUintB;rw[if_neg h0];exact hp
 have hb:=(numOf_bd l h).1
 generalize hv:numOf l=v at *
 cases neg with
 |true=>
  show Lib.parseIntB 64 (45::l)=_
  unfold Lib.parseIntB
  simp only
  rw[if_pos (.inr (by decide)),hu]
  simp only
  rw[if_neg (fun hh=>hh.1 (by decide))]
  by_cases hc:v≤9223372036854775808
  ·rw[if_neg (fun hh=>by have:=hh.2;omega),if_pos (by decide),intV_t,if_pos hc]
   simp only[if_true]
   congr 1;omega
  ·rw[if_pos ⟨by decide,by omega⟩,intV_t,if_neg hc]
   simp
 |false=>
  cases l with
  |nil=>exact absurd rfl h0
  |cons c r=>
   rw[List.all_cons,Bool.and_eq_true]at h
   have hc:=h.1
   unfold isDig at hc
   simp only[Bool.and_eq_true,decide_eq_true_eq]at hc
   rw[if_neg (by simp),List.nil_append]
   unfold Lib.parseIntB
   simp only
   rw[if_neg (by omega),hu]
   simp only
   by_cases hc2:v≤9223372036854775807
   ·rw[if_neg (fun hh=>by have:=hh.2;omega),if_neg (fun hh=>by have:=hh.1;omega),if_neg (by omega),intV_f,if_pos hc2]
    simp only[if_true]
    congr 1;omega
   ·rw[if_pos ⟨by omega,by omega⟩,intV_f,if_neg hc2]
    simp
theorem repeat_nought(k:Nat):Lib.repeatL [48] k=List.replicate k 48:=by
 induction k with
 |zero=>rfl
 |succ k ih=>rw[Lib.repeatL,ih];rfl
theorem replicate_dig(k:Nat):(List.replicate k (48:UInt8)).all isDig=true:=by
 induction k with
 |zero=>rfl
 |succ k ih=>rw[List.replicate_succ,List.all_cons,ih];rfl
theorem itoas_tab(E:Int)(h0:-9223372036854775808≤E)(h1:E≤9223372036854775807)(w:World)(htab: ∀W,Below w.heap.size w W→Lib.TabIs Tryz.prog W "internal/strconv.uint64pow10" .u64 Lib.pow10Tab):Itoas E w:=fun W hW=>(Tryz.strconv_Itoa E h0 h1 W (htab W hW)).mono (by
 rintro e w' ⟨rfl,k,os,rfl⟩
 exact⟨rfl,Lib.below_grow _ _ (Nat.le_refl _) _ _⟩)
def textM(d:Dec):Bs:=
 if d.right=true then
  if d= .zero then [48] else(if d.neg=true then [45] else [])++d.digits++(if d.exp≠0 then 101::Lib.itoa d.exp else [])
 else []
set_option maxHeartbeats 1000000 in
set_option maxRecDepth 1000000 in
theorem text_any(neg:Bool)(D:Bs)(E:Int)(w:World)(hD:D.length≤1099511627776)(hE:-9223372036854775808≤E∧E≤9223372036854775807)(hI:E≠0→Itoas E w)(hL:(Lib.itoa E).length≤1000):
 Calls Tryz.prog 43 #[.agg #[.bool neg,.string (st D),.int .i64 E]] w fun e w'=>e= .returned (.string (st (textM ⟨neg,D,E⟩)))∧Below w.heap.size w w':=by
 have HBD:=hq (@right_bd neg D E)
 generalize hR:textM ⟨neg,D,E⟩=R
 have HR:=hq hR
 clear hR
 have HI:=hq hI
 clear hI
 go_enter Tryz.func43,Tryz.ntmps43
 go_wp2_with fail
 refine(right_any neg D E _ hD hE).mono ?_
 rintro e w1 ⟨rfl,hb1⟩
 have hb:=(below_alloc w (.cells #[.bool neg,.string (st D),.int .i64 E] 59)).trans (hb1.mono (by rw[World.size_alloc];omega))
 have hW:=(Whole.made w 59 #[.bool neg,.string (st D),.int .i64 E]).grow hb1
 clear hb1
 obtain⟨c0,c1,c2⟩:=three_cells hW
 by_cases hr:Dec.right ⟨neg,D,E⟩=true
 ·have HR2:=hq (HR.o.symm.trans (if_pos hr))
  simp only at HR2
  have hbd:=HBD.o hr
  rw[hr]
  clear HR hr HBD
  have heq:=eq_num neg D E
  by_cases hz:Dec.mk neg D E= .zero
  ·have HN:=hq (HR2.o.trans (if_pos hz))
   rw[decide_eq_true hz]at heq
   clear HR2 hz HI
   go_wp2_with fail
   go_ret
   exact⟨by rw[HN.o];rfl,hb⟩
  ·have HN:=hq (HR2.o.trans (if_neg hz))
   rw[decide_eq_false hz]at heq
   clear HR2 hz
   cases neg with
   |true=>
    by_cases he:E=0
    ·have he2:(E !=0)=false:=by simp[he]
     have HN2:Hq (R=45::D):=hq (by rw[HN.o];simp[he])
     clear HN he HI
     go_wp2_with fail
     go_ret
     exact⟨by rw[HN2.o];exact congrArg (fun x=>Ending.returned (.string x)) (cat_st [45] D),hb⟩
    ·have he2:(E !=0)=true:=bne_iff_ne.2 he
     have HN2:Hq (R=(45::D)++(101::Lib.itoa E)):=hq (by rw[HN.o];simp[he])
     have hIt:=hq ((HI.o he).grow hb)
     clear HN he HI
     have hz2:(st (Lib.itoa E)).size≤1000:=by rw[st_size];exact hL
     go_wp2_with fail
     refine(hIt.o _ (Below.refl _ _)).mono ?_
     rintro e w2 ⟨rfl,hb2⟩
     replace hb:=below_trans hb hb2
     clear hb2
     go_wp2_with fail
     go_ret
     exact⟨by rw[HN2.o];exact congrArg (fun x=>Ending.returned (.string x)) (show(st [45]++st D)++(st [101]++st (Lib.itoa E))=st ((45::D)++(101::Lib.itoa E)) by rw[cat_st,cat_st,cat_st];rfl),hb⟩
   |false=>
    by_cases he:E=0
    ·have he2:(E !=0)=false:=by simp[he]
     have HN2:Hq (R=D):=hq (by rw[HN.o];simp[he])
     clear HN he HI
     go_wp2_with fail
     go_ret
     exact⟨by rw[HN2.o];rfl,hb⟩
    ·have he2:(E !=0)=true:=bne_iff_ne.2 he
     have HN2:Hq (R=D++(101::Lib.itoa E)):=hq (by rw[HN.o];simp[he])
     have hIt:=hq ((HI.o he).grow hb)
     clear HN he HI
     have hz2:(st (Lib.itoa E)).size≤1000:=by rw[st_size];exact hL
     go_wp2_with fail
     refine(hIt.o _ (Below.refl _ _)).mono ?_
     rintro e w2 ⟨rfl,hb2⟩
     replace hb:=below_trans hb hb2
     clear hb2
     go_wp2_with fail
     go_ret
     exact⟨by rw[HN2.o];exact congrArg (fun x=>Ending.returned (.string x)) ((congrArg (st D++ ·) (cat_st [101] _)).trans (cat_st D _)),hb⟩
 ·have HR2:=hq (HR.o.symm.trans (if_neg hr))
  have hr2:Dec.right ⟨neg,D,E⟩=false:=by simpa using hr
  rw[hr2]
  clear HR hr HBD
  go_wp2_with fail
  go_ret
  exact⟨by rw[HR2.o];rfl,hb⟩
def OfPost(R:Dec)(w:World)(e:Ending)(w':World):Prop:=e= .returned R.val∧Below w.heap.size w w'
set_option maxHeartbeats 1000000 in
set_option maxRecDepth 1000000 in
theorem of_any(n:Int)(p:Parts)(w:World)(hI:Itoas n w)(hL:(Lib.itoa n).length≤1000)(hp:splitM (Lib.itoa n)=some p)(hp2:p.whole.length+p.frac.length≤1099511627776):
 Calls Tryz.prog 67 #[.int .i64 n] w (OfPost (numM p.neg p.whole p.frac p.down []) w):=by
 have HI:=hq hI
 have HP:=hq hp
 clear hI hp
 have HL:Hq ((st (Lib.itoa n)).size≤maxLen):=hq (by rw[st_size];unfold maxLen;omega)
 go_enter Tryz.func67,Tryz.ntmps67
 go_wp2_with fail
 have ha:=below_alloc w (.cells #[.bool false,.string (st []),.int .i64 0] 59)
 refine(HI.o _ ha).mono ?_
 rintro e w1 ⟨rfl,hb1⟩
 have hW:=(Whole.made w 59 #[.bool false,.string (st []),.int .i64 0]).grow hb1
 replace hb1:=below_trans ha hb1
 clear ha
 go_wp2_with fail
 refine(split_any _ _ HL.o).mono ?_
 rw[st_list,HP.o]
 rintro e w2 ⟨⟨v,rfl,hv⟩,hb2⟩
 obtain⟨q,hq,rfl⟩|⟨h,_⟩:=hv
 ·injection hq with hq
  subst hq
  obtain⟨neg,whole,frac,down,power⟩:=p
  simp only[Parts.val]at *
  have hb:=below_trans hb1 hb2
  replace hW:=hW.grow hb2
  obtain⟨r0,r1,r2⟩:=three_cells hW
  have q0:=hW.free 0
  have q1:=hW.free 1
  have q2:=hW.free 2
  clear hb1 hb2 HP HI HL
  go_wp2_with fail
  refine(number_any neg whole frac down _ [] _ rfl (by simp) hp2).mono ?_
  generalize numM neg whole frac down []=D at *
  rintro e w3 ⟨rfl,hb3⟩
  obtain⟨dn,DD,DE⟩:=D
  simp only[Dec.val]at *
  have hW3:=(hW.alloc (.cells #[.bool neg,.string (st whole),.string (st frac),.bool down,.string (st power)] 86)).grow hb3
  have hb4:Below w.heap.size w w3:=(hb.alloc (by have:=hW.lt;omega) _).trans (hb3.mono (by rw[World.size_alloc];have:=hW.lt;omega))
  clear hb3 hb hW r0 r1 r2 q0 q1 q2
  obtain⟨r0,r1,r2⟩:=three_cells hW3
  have q0:=hW3.free 0
  have q1:=hW3.free 1
  have q2:=hW3.free 2
  go_wp2_with fail
  refine bodyPost_ret (v:=(Dec.mk dn DD DE).val) ?_ rfl ?_
  ·obtain ⟨z0,z1,z2⟩:=three_cells (by simpa using (((hW3.put 0 (.bool dn)).put 1 (.string (st DD))).put 2 (.int .i64 DE)))
   simp[results,Tryz.results67,go_sem,z0,z1,z2,Dec.val]
  ·exact ⟨rfl,((hb4.setCell (p:=⟨w.heap.size,0,none⟩) (by simp) _).setCell (p:=⟨w.heap.size,1,none⟩) (by simp) _).setCell (p:=⟨w.heap.size,2,none⟩) (by simp) _⟩
 ·cases h
theorem parseM_right {l:Bs} {m:Dec} (h:parseM l=(m,0)):m.right=true:=by
 unfold parseM at h
 split at h
 ·injection h with _ h;cases h
 ·split at h
  ·injection h with _ h;cases h
  ·split at h
   ·injection h with _ h;cases h
   ·split at h
    ·rename_i hr;injection h with h _;rw[←h];exact hr
    ·injection h with _ h;cases h
end Go.Proofs.YtkafjblfjdpdaaaGreatDoor
