/-
  WALKS: number.digits, the parts of a literal.
  WALKS: (literal).number: what a literal is.
  PLAIN MATHEMATICS: the order of bytes of two texts of digits is the order of the numbers that they are behind a point.
  strconv.Itoa, as a premise on a world.
  THE PREMISE ON strconv.Itoa, of any int.
-/
import Derived.Test.YtkafjblfjdpdaaaGreatDoorChecked
import Derived.Test.YtkafjblfjdpdaaaGreatDoorShelf
import Derived.Test.YtkafjblfjdpdaaaGreatDoorBas
import Derived.Lib.ItoaLen
set_option maxHeartbeats 1000000
set_option maxRecDepth 1000000
namespace Go.Proofs.YtkafjblfjdpdaaaGreatDoor
open Go.RowKit
theorem zy9(s:ByteArray)(j:Nat)(h:j<s.data.toList.length):za7 s.data.toList[j]=(decide (48<=byt s j)&&decide (byt s j<=57)):=by
 unfold za7;rw[zb6 s j h];rfl
theorem zq7(s:ByteArray)(w:World)(hs:s.size<=maxLen):
 Calls Tryz.prog 124 #[.string s] w fun e w'=>e= .returned (.int .i64 (nd s.data.toList))/\Below w.heap.size w w':=by
 unfold maxLen at hs;generalize hV:nd s.data.toList=V;have HV:=hq hV;clear hV;go_enter Tryz.func124,Tryz.ntmps124
 go_wp2
 go_loopw [] (fun wr=> ∃(pos:Nat),pos<=s.size/\wr.heap[w.heap.size]?=some (.stringIter s pos)/\Below w.heap.size w wr/\Hq (∀j,j<pos->48<=byt s j/\byt s j<=57)) (fun wr=>s.size-wr.iterPos w.heap.size)
 case atStart=>exact⟨0,by omega,World.iter_heap w s 0,(Below.refl _ _).alloc (Nat.le_refl _) _,hq (fun j h=>by omega)⟩
 case round=>
  obtain⟨pos,hps,hit,hb,hd⟩:=hrel;have hlt:w.heap.size<wr.heap.size:=(Array.getElem?_eq_some_iff.1 hit).1;by_cases hp:pos<s.size
  ·have hnx: ∀ty,(Instr.next (.pointer (some ⟨w.heap.size,0,none⟩)) true ty).run Tryz.prog wr=_:=fun ty=>Lib.run_next_any_at wr w.heap.size s pos ty hit hp
   have hwp:=zi4 s pos;have hdl:=decode_le s pos;have hit2:=Lib.iterAt_heap wr w.heap.size s pos (pos+(Utf8.decode s pos).2) hit;have hb2:=Lib.below_iterAt hb (k:=w.heap.size) (Nat.le_refl _) s (pos+(Utf8.decode s pos).2);have hlow:Hq (byt s pos<128->(Utf8.decode s pos)=(byt s pos,1)):=hq (zf4 s pos);have hhigh:Hq (128<=byt s pos->128<=(Utf8.decode s pos).1):=hq (zv s pos);have hend:Hq (¬(48<=byt s pos/\byt s pos<=57)->pos=V):=hq (fun hn=>by
    rw[←HV.o];refine(nd_is _ pos (fun j hj hjp=> ?_) (fun hk=> ?_) hps).symm
    ·rw[zy9];have:=hd.o j hjp;simp;omega
    ·rw[zy9];simp;omega)
   by_cases hdig:48<=byt s pos/\byt s pos<=57
   ·have e1:=hlow.o (by omega);have HW:Hq ((Utf8.decode s pos).2=1):=hq (by rw[e1]);have hC1:(48:Int)<=((Utf8.decode s pos).1:Int):=by rw[e1];simp only;omega
    have hC2:((Utf8.decode s pos).1:Int)<=57:=by rw[e1];simp only;omega
    clear e1;go_wp2
    go_roundw
    case rel=>exact⟨pos+(Utf8.decode s pos).2,by rw[HW.o];omega,hit2,hb2,hq (fun j hj=>by
     rw[HW.o]at hj;by_cases hjp:j=pos
     ·subst hjp;exact hdig
     ·exact hd.o j (by omega))⟩
    case measure=>simp only[World.iterPos,hit2,hit];rw[HW.o];omega
   ·have hV:pos=V:=hend.o hdig;have hC:((Utf8.decode s pos).1:Int)<48\/(57:Int)<((Utf8.decode s pos).1:Int):=by
     by_cases h128:byt s pos<128
     ·rw[hlow.o h128];simp only;omega
     ·have:=hhigh.o (by omega);omega
    have HVV:=hq hV;clear hV hdig;rcases hC with hC|hC
    ·go_wp2
     go_ret
     exact⟨ret_one (zb5 (by rw[HVV.o])),hb2⟩
    ·by_cases hC':((Utf8.decode s pos).1:Int)<48
     ·omega
     ·go_wp2
      go_ret
      exact⟨ret_one (zb5 (by rw[HVV.o])),hb2⟩
  ·obtain rfl:pos=s.size:=by omega
   have hnx: ∀ty,(Instr.next (.pointer (some ⟨w.heap.size,0,none⟩)) true ty).run Tryz.prog wr=_:=fun ty=>Lib.run_next_end_at wr w.heap.size s s.size ty hit hp
   have hV:s.size=V:=by
    rw[←HV.o];refine(nd_is _ s.size (fun j hj hjp=> ?_) (fun hk=>absurd hk (Nat.lt_irrefl _)) (Nat.le_refl _)).symm;rw[zy9];have:=hd.o j hjp;simp;omega
   have HVV:=hq hV;clear hV;go_wp2
   go_ret
   exact⟨ret_one (zb5 (by rw[HVV.o])),hb⟩
structure Dec where
 neg:Bool
 digits:Bs
 exp:Int
 deriving DecidableEq
def Dec.zero:Dec:=⟨false,[],0⟩
def Dec.val(d:Dec):Value:= .agg #[.bool d.neg,.string (st d.digits),.int .i64 d.exp]
def zc9(l:Bs):Int:=l.foldl (fun n c=>n*10+((c.toNat:Int)-48)) 0
def zd1(l:Bs):Bs:=Lib.trimLeftB l 48
def zd6(l:Bs):Bs:=Lib.trimRightB l 48
def numM(neg:Bool)(whole frac:Bs)(down:Bool)(power:Bs):Dec:=
 let all:=zd1 (whole++frac)
 let short:=zd6 all
 if short=[] then .zero else⟨neg,short,(if down then-zc9 power else zc9 power)-frac.length+all.length-short.length⟩
theorem zu9(l:Bs)(c:UInt8):zc9 (l++[c])=zc9 l*10+((c.toNat:Int)-48):=by
 unfold zc9;rw[List.foldl_append];rfl
theorem zP2(l:Bs)(h:l.all za7=true):0<=zc9 l/\zc9 l<=10^l.length-1:=by
 suffices H: ∀(n:Nat) (l:Bs),l.length=n->l.all za7=true->0<=zc9 l/\zc9 l<=10^l.length-1 from H _ l rfl h
 intro n;induction n with
 |zero=>intro l hl _;have:l=[]:=List.eq_nil_of_length_eq_zero hl;subst this;simp[zc9]
 |succ n ih=>
  intro l hl ha;obtain⟨m,c,rfl⟩: ∃m c,l=m++[c]:=⟨l.dropLast,l.getLast (by intro h;rw[h]at hl;simp at hl),(List.dropLast_concat_getLast _).symm⟩;simp only[List.length_append,List.length_cons,List.length_nil,List.all_append,List.all_cons,List.all_nil,Bool.and_true,Bool.and_eq_true]at hl ha ⊢;have hm:=ih m (by omega) ha.1;have hc:=ha.2;unfold za7 at hc;simp only[Bool.and_eq_true,decide_eq_true_eq]at hc;rw[zu9];have hp:(10:Int)^(m.length+1)=10*10^m.length:=by rw[Int.pow_succ];omega
  rw[Nat.zero_add,hp];omega
theorem zy3(l:Bs)(h:l.all za7=true)(hl:l.length<=9):0<=zc9 l/\zc9 l<=999999999:=by
 have:=zP2 l h;have hm:(10:Int)^l.length<=10^9:=by
  have h2:(10:Nat)^l.length<=10^9:=Nat.pow_le_pow_right (by omega) hl
  exact_mod_cast h2
 have e:(10:Int)^9=1000000000:=by decide
 omega
theorem zE7(l:Bs):(zd1 l).length<=l.length:=by
 unfold zd1 Lib.trimLeftB;exact(List.dropWhile_suffix _).length_le
theorem stripR_le(l:Bs):(zd6 l).length<=l.length:=by
 unfold zd6 Lib.trimRightB;rw[List.length_reverse];have:=(List.dropWhile_suffix (p:=(· ==(48:UInt8))) (l:=l.reverse)).length_le
 rwa [List.length_reverse]at this
theorem zl7(a b:Bs):st a++st b=st (a++b):=by
 apply ByteArray.ext;simp
theorem za2 {w:World} {g:Nat} {t:TypeId} {a b c:Value} (h:Whole w g t #[a,b,c]):
 w.cell? ⟨g,0,none⟩=some a/\w.cell? ⟨g,1,none⟩=some b/\w.cell? ⟨g,2,none⟩=some c:=⟨h.at_ 0,h.at_ 1,h.at_ 2⟩
def DecPost(R:Dec)(w:World)(e:Ending)(w':World):Prop:=e= .returned R.val/\Below w.heap.size w w'
def zz0(down:Bool)(power:Bs):Int:=if down then-zc9 power else zc9 power
theorem zL6(neg:Bool)(whole frac:Bs)(down:Bool)(p0:Value)(power:Bs)(w:World)(hd:power.all za7=true)(hl:power.length<=9)(hw:whole.length+frac.length<=1099511627776):
 Calls Tryz.prog 82 #[.agg #[.bool neg,.string (st whole),.string (st frac),.bool down,p0],.string (st power)] w (DecPost (numM neg whole frac down power) w):=by
 generalize hR:numM neg whole frac down power=R;have HR:=hq hR;clear hR;have HD:=hq hd;clear hd;have hz:(st power).size=power.length:=za8 power;go_enter Tryz.func82,Tryz.ntmps82
 go_wp2_with fail
 go_loopw [5] (fun x wr=> ∃pos:Nat,pos<=power.length/\x= .int .i64 (zc9 (power.take pos))/\wr.heap[w.heap.size+2]?=some (.stringIter (st power) pos)/\Below w.heap.size w wr/\
  Whole wr w.heap.size 86 #[.bool neg,.string (st whole),.string (st frac),.bool down,p0]/\Whole wr (w.heap.size+1) 59 #[.bool false,.string (st []),.int .i64 0])
  (fun _ wr=>power.length-wr.iterPos (w.heap.size+2))
 case atStart=>
  have hW0:=Whole.made w 86 #[.bool neg,.string (st whole),.string (st frac),.bool down,p0];have hW1:=Whole.made (w.alloc (.cells #[.bool neg,.string (st whole),.string (st frac),.bool down,p0] 86)) 59 #[.bool false,.string (st []),.int .i64 0];rw[World.size_alloc]at hW1;refine⟨0,by omega,rfl,?_,?_,(hW0.alloc _).alloc _,hW1.alloc _⟩
  ·have:=World.iter_heap ((w.alloc (.cells #[.bool neg,.string (st whole),.string (st frac),.bool down,p0] 86)).alloc (.cells #[.bool false,.string (st []),.int .i64 0] 59)) (st power) 0;simpa using this
  ·exact ((za0 w _).alloc (by rw[World.size_alloc];omega) _).alloc (by rw[World.size_alloc,World.size_alloc];omega) _
 case round=>
  obtain⟨pos,hpos,rfl,hit,hb,hc0,hc1⟩:=hrel;by_cases hp:pos<power.length
  ·have hnx: ∀ty,(Instr.next (.pointer (some ⟨w.heap.size+2,0,none⟩)) true ty).run Tryz.prog wr=_:=fun ty=>Lib.run_next_any_at wr (w.heap.size+2) (st power) pos ty hit (by rw[hz];exact hp)
   have hdg:48<=byt (st power) pos/\byt (st power) pos<=57:=by
    have h1:=List.all_eq_true.1 HD.o power[pos] (List.getElem_mem hp);have h2:=zy9 (st power) pos (by rw[zc7];exact hp);simp only at h2;rw[h2]at h1;simpa using h1
   have hdc:=zf4 (st power) pos (by omega);rw[hdc]at hnx;have hit2:=Lib.iterAt_heap wr (w.heap.size+2) (st power) pos (pos+1) hit;have hb2:=Lib.below_iterAt hb (k:=w.heap.size+2) (by omega) (st power) (pos+1);have hc0':Whole (wr.iterAt (w.heap.size+2) (st power) (pos+1)) w.heap.size 86 #[.bool neg,.string (st whole),.string (st frac),.bool down,p0]:=(Lib.iterAt_other wr (w.heap.size+2) w.heap.size _ _ (by omega)).trans hc0;have hc1':Whole (wr.iterAt (w.heap.size+2) (st power) (pos+1)) (w.heap.size+1) 59 #[.bool false,.string (st []),.int .i64 0]:=(Lib.iterAt_other wr (w.heap.size+2) (w.heap.size+1) _ _ (by omega)).trans hc1;have hsn:Hq (zc9 (power.take (pos+1))=zc9 (power.take pos)*10+((byt (st power) pos:Int)-48)):=hq (by
    rw[List.take_succ_eq_append_getElem hp,zu9,zb6 (st power) pos (by rw[hz];exact hp)];rfl)
   have hbd:0<=zc9 (power.take pos)/\zc9 (power.take pos)<=999999999:=zy3 _ (by
    rw[List.all_eq_true];intro x hx;exact List.all_eq_true.1 HD.o x (List.mem_of_mem_take hx)) (by rw[List.length_take];omega)
   generalize zc9 (power.take pos)=X at *;generalize byt (st power) pos=C at *;clear hdc;go_wp2_with fail
   go_roundw
   case rel=>exact⟨pos+1,by omega,by rw[hsn.o],hit2,hb2,hc0',hc1'⟩
   case measure=>simp only[World.iterPos,hit2,hit];omega
  ·have hnx: ∀ty,(Instr.next (.pointer (some ⟨w.heap.size+2,0,none⟩)) true ty).run Tryz.prog wr=_:=fun ty=>Lib.run_next_end_at wr (w.heap.size+2) (st power) pos ty hit (by rw[hz];exact hp)
   obtain rfl:pos=power.length:=by omega
   rw[List.take_length];have hbd:=zy3 _ HD.o hl;have HXE:Hq (zz0 down power=if down then-zc9 power else zc9 power):=hq rfl;have HR2:Hq (R=if zd6 (zd1 (whole++frac))=[] then .zero else⟨neg,zd6 (zd1 (whole++frac)),zz0 down power-frac.length+(zd1 (whole++frac)).length-(zd6 (zd1 (whole++frac))).length⟩):=hq (by rw[←HR.o];rfl);generalize zc9 power=X at *;obtain⟨k0,k1,k2,k3,k4⟩:wr.cell? ⟨w.heap.size,0,none⟩=some (.bool neg)/\wr.cell? ⟨w.heap.size,1,none⟩=some (.string (st whole))/\wr.cell? ⟨w.heap.size,2,none⟩=some (.string (st frac))/\wr.cell? ⟨w.heap.size,3,none⟩=some (.bool down)/\wr.cell? ⟨w.heap.size,4,none⟩=some p0:=⟨hc0.at_ 0,hc0.at_ 1,hc0.at_ 2,hc0.at_ 3,hc0.at_ 4⟩;obtain⟨r0,r1,r2⟩:=za2 hc1;have q0:=hc1.free 0;have q1:=hc1.free 1;have q2:=hc1.free 2;go_upto_if 22 with fail
   go_cut [5] (fun x wx=>x= .int .i64 (zz0 down power)/\wx=wr)
   case first=>
    cases down with
    |true=>
     go_wp2_with fail
     go_meet
     exact⟨by rw[HXE.o];rfl,rfl⟩
    |false=>
     go_wp2_with fail
     go_meet
     exact⟨by rw[HXE.o];rfl,rfl⟩
   case rest=>
    obtain⟨rfl,rfl⟩:=hcut;have hxb:-999999999<=zz0 down power/\zz0 down power<=999999999:=by rw[HXE.o];split<;>omega
    clear HXE;generalize zz0 down power=Y at *;have hla:=zE7 (whole++frac);have hra:=stripR_le (zd1 (whole++frac));rw[List.length_append]at hla;go_wp2_with fail
    rw[zl7];refine(Tryz.strings_TrimLeft_one (st (whole++frac)) 48 (by decide) _).mono ?_;rw[zc7,show Lib.trimLeftB (whole++frac) 48=zd1 (whole++frac) from rfl];generalize zd1 (whole++frac)=AL at *;rintro e w1 ⟨rfl,hw1⟩;obtain rfl:=hw1.symm;go_wp2_with fail
    refine(Tryz.strings_TrimRight_one (st AL) 48 (by decide) _ (by rw[za8];omega)).mono ?_;rw[zc7,show Lib.trimRightB AL 48=zd6 AL from rfl];generalize zd6 AL=SH at *;rintro e w1 ⟨rfl,hw1⟩;obtain rfl:=hw1.symm;by_cases hS:SH=[]
    ·have HY:Hq (R= .zero):=hq (by rw[HR2.o,if_pos hS]);have e1:SH.isEmpty=true:=by rw[hS];rfl
     clear HR2 hS;go_wp2_with fail
     refine bodyPost_ret (v:=Dec.zero.val) ?_ rfl ?_
     ·simp[results,Tryz.results82,go_sem,r0,r1,r2,Dec.zero,Dec.val]
     ·exact ⟨by rw[HY.o],((hb.setCell (p:=⟨w.heap.size+1,0,none⟩) (by simp) _).setCell (p:=⟨w.heap.size+1,1,none⟩) (by simp) _).setCell (p:=⟨w.heap.size+1,2,none⟩) (by simp) _⟩
    ·have HY:Hq (R=⟨neg,SH,Y-frac.length+AL.length-SH.length⟩):=hq (by rw[HR2.o,if_neg hS]);have e1:SH.isEmpty=false:=by cases SH with|nil=>exact absurd rfl hS|cons _ _=>rfl
     clear HR2 hS;go_wp2_with fail
     refine bodyPost_ret (v:=(Dec.mk neg SH (Y-frac.length+AL.length-SH.length)).val) ?_ rfl ?_
     ·simp[results,Tryz.results82,go_sem,r0,r1,r2,Dec.val]
     ·exact ⟨by rw[HY.o],((hb.setCell (p:=⟨w.heap.size+1,0,none⟩) (by simp) _).setCell (p:=⟨w.heap.size+1,1,none⟩) (by simp) _).setCell (p:=⟨w.heap.size+1,2,none⟩) (by simp) _⟩
def sg(x:Int):Int:=if x<0 then -1 else if 0<x then 1 else 0
theorem numOf_foldl(l:Bs): ∀n:Int,l.foldl (fun n c=>n*10+((c.toNat:Int)-48)) n=n*10^l.length+zc9 l:=by
 induction l with
 |nil=>intro n;simp[zc9]
 |cons x l ih=>
  intro n;have h0:zc9 (x::l)=l.foldl (fun n c=>n*10+((c.toNat:Int)-48)) (0*10+((x.toNat:Int)-48)):=rfl;rw[List.foldl_cons,ih,h0,ih,List.length_cons,Int.pow_succ];generalize (10:Int)^l.length=T;generalize zc9 l=Q
  grind
theorem numOf_cons(x:UInt8)(l:Bs):zc9 (x::l)=((x.toNat:Int)-48)*10^l.length+zc9 l:=by
 have h0:zc9 (x::l)=l.foldl (fun n c=>n*10+((c.toNat:Int)-48)) (0*10+((x.toNat:Int)-48)):=rfl;rw[h0,numOf_foldl];generalize (10:Int)^l.length=T;generalize zc9 l=Q
 grind
theorem dig_bd {x:UInt8} (h:za7 x=true):0<=(x.toNat:Int)-48/\(x.toNat:Int)-48<=9:=by
 unfold za7 at h;simp at h;omega
def pad(a:Bs)(M:Nat):Int:=zc9 a*10^(M-a.length)
def Itoas(E:Int)(w:World):Prop:= ∀W,Below w.heap.size w W->Calls Tryz.prog 84 #[.int .i64 E] W fun e w'=>e= .returned (.string (st (Lib.itoa E)))/\Below W.heap.size W w'
theorem Itoas.grow {E:Int} {w W:World} (h:Itoas E w)(hb:Below w.heap.size w W):Itoas E W:=fun W' hW=>h W' (za hb hW)
def Its(w:World):Prop:= ∀E:Int,-9223372036854775808<=E->E<=9223372036854775807->Itoas E w
theorem Its.grow {w w':World} (h:Its w)(hb:Below w.heap.size w w'):Its w':=fun E h0 h1 W hW=>h E h0 h1 W (za hb hW)
end Go.Proofs.YtkafjblfjdpdaaaGreatDoor
