/-
  WALKS: the document's parts of a literal.
  WALKS: the document's Parse.
  WALK: the document's Decimal.
  WALKS: the document's Text and Of.
  WALK: the small cases of layer 2.
  WALKS: the document's Compare of layer 2, and the law NumberCompares.
  WALKS: number.Int.
  WALKS: the document's Int.
-/
import Derived.Test.YtkafjblfjdpdaaaGreatDoorNumK
set_option maxHeartbeats 4000000
set_option maxRecDepth 1000000
namespace Go.Proofs.YtkafjblfjdpdaaaGreatDoor
open Go.RowKit
theorem tw_is {p:UInt8->Bool} (l:Bs)(k:Nat)(h:(l.take k).all p=true)(hk: ∀hk:k<l.length,p l[k]=false)(hl:k<=l.length):l.takeWhile p=l.take k/\l.dropWhile p=l.drop k:=by
 have e:l=l.take k++l.drop k:=(List.take_append_drop k l).symm;have hd:(l.drop k).takeWhile p=[]/\(l.drop k).dropWhile p=l.drop k:=by
  by_cases hlt:k<l.length
  ·rw[List.drop_eq_getElem_cons hlt,List.takeWhile_cons,List.dropWhile_cons,hk hlt];exact⟨rfl,rfl⟩
  ·rw[List.drop_eq_nil_of_le (by omega)];exact⟨rfl,rfl⟩
 obtain⟨a,b⟩:=zx5 (l.drop k) h;constructor
 ·conv=>lhs;rw[e]
  rw[a,hd.1,List.append_nil]
 ·conv=>lhs;rw[e]
  rw[b,hd.2]
theorem get_st(l:Bs)(k:Nat)(h:k<(st l).size):(st l)[k]'h=l[k]'(by rw[za8]at h;exact h):=rfl
theorem notE_get(l:Bs)(k:Nat)(h:k<(st l).size)(h':k<l.length):notE l[k]=(!(((((st l)[k]'h).toNat:Int)==101)||((((st l)[k]'h).toNat:Int)==69))):=by
 rw[get_st];unfold notE
 congr 2
 ·rw[Bool.eq_iff_iff,beq_iff_eq,beq_iff_eq,←UInt8.toNat_inj];show _=101↔_;omega
 ·rw[Bool.eq_iff_iff,beq_iff_eq,beq_iff_eq,←UInt8.toNat_inj];show _=69↔_;omega
theorem notPt_get(l:Bs)(k:Nat)(h:k<(st l).size)(h':k<l.length):zj9 l[k]=(!((((st l)[k]'h).toNat:Int)==46)):=by
 rw[get_st];unfold zj9
 congr 1
 rw[Bool.eq_iff_iff,beq_iff_eq,beq_iff_eq,←UInt8.toNat_inj];show _=46↔_;omega
theorem zx7 {p:UInt8->Bool} {l:Bs} {k:Nat} (h:(l.take k).all p=true)(hk:k<l.length)(hp:p l[k]=true):(l.take (k+1)).all p=true:=by
 rw[List.take_succ_eq_append_getElem hk,List.all_append,h,List.all_cons,hp];rfl
def RPartsPost(r:RParts)(w:World)(e:Ending)(w':World):Prop:=e= .returned (.tuple #[.bool r.neg,.string (st r.whole),.string (st r.frac),.bool r.down,.string (st r.exp),.bool r.ok])/\w'=w
theorem zB2(c:UInt8)(r:Bs)(n:Nat)(hn:n<256):(((c::r).head?==some (UInt8.ofNat n)):Bool)=((c.toNat:Int)==n):=by
 rw[Bool.eq_iff_iff,beq_iff_eq,beq_iff_eq,List.head?_cons,Option.some.injEq,←UInt8.toNat_inj,UInt8.toNat_ofNat_of_lt' (by simpa using hn)];omega
theorem zG2(l:Bs)(w:World)(hl:l.length<=1099511627776):
 Calls Tryz.prog 132 #[.string (st l)] w fun e w'=>e= .returned (.bool (digs l))/\w=w':=
 (zG3 l w hl).mono fun _ _ ⟨h1,h2⟩=>⟨h1,h2.symm⟩
theorem rparts_any(l:Bs)(w:World)(hl:l.length<=1099511627776):
 Calls Tryz.prog 85 #[.string (st l)] w (RPartsPost (zd8 l) w):=by
 generalize hR:zd8 l=R;have HR:=hq hR;clear hR;go_enter Tryz.func85,Tryz.ntmps85
 go_upto_region 1 with fail
 go_cut [8] (fun n wx=>n= .bool (l.head?==some 45)/\wx=w)
 case first=>
  cases l with
  |nil=>
   clear HR;go_wp2_with fail
   go_meet
   exact⟨rfl,rfl⟩
  |cons c r=>
   have hy:(((st (c::r))[0]'(by rw[za8];simp)).toNat:Int)=(c.toNat:Int):=rfl;have hf':((c::r).head?==some (45:UInt8))=((c.toNat:Int)==45):=zB2 c r 45 (by omega);simp only[List.length_cons]at hl;have HF:=hq hf';clear HR hf';go_wp2_with fail
   go_meet
   exact⟨congrArg Value.bool HF.o.symm,rfl⟩
 case rest=>
  obtain⟨rfl,rfl⟩:=hcut;have hh: ∃(m:Bs) (neg:Bool),(l.head?==some 45)=neg/\m=(if neg=true then l.tail else l)/\R=zn neg m/\m.length<=l.length/\(neg=true->1<=l.length):=by
   refine⟨_,_,rfl,rfl,?_,?_,?_⟩
   ·rw[←HR.o];unfold zd8;split<;>rename_i h<;>simp[h]
   ·split
    ·rw[List.length_tail];omega
    ·omega
   ·cases l with
    |nil=>intro h;cases h
    |cons c r=>intro _;simp
  obtain⟨m,neg,h1,h2,HN,hm,hn⟩:=hh;rw[h1];have HN:=hq HN;have H2:=hq h2;have HM:Hq (∀x:ByteArray,(neg=true->x=(st l).extract 1 l.length)->(neg=false->x=st l)->x=st m):=hq (fun x hx hy=>by
   rw[H2.o];cases neg with
   |true=>rw[hx rfl,zl2,if_pos rfl,List.drop_one]
   |false=>rw[hy rfl,if_neg (by simp)])
  clear HR h1 h2 H2;go_upto_if 23 with fail
  go_cut [0] (fun s wx=>s= .string (st m)/\wx=wc)
  case first=>
   cases neg with
   |true=>
    have hn:=hn rfl;go_wp2_with fail
    go_meet
    exact⟨congrArg Value.string (HM.o _ (fun _=>rfl) (fun h=>by cases h)),rfl⟩
   |false=>
    go_wp2_with fail
    go_meet
    exact⟨congrArg Value.string (HM.o _ (fun h=>by cases h) (fun _=>rfl)),rfl⟩
  case rest=>
   obtain⟨rfl,rfl⟩:=hcut;clear HM hn;go_wp2_with fail
   go_loopg [9] m.length (fun g a wx=> ∃k:Nat,a= .int .i64 k/\k+g=m.length/\Hq ((m.take k).all notE=true)/\wx=wc)
   case atStart=>exact⟨0,rfl,by omega,hq rfl,rfl⟩
   case round=>
    obtain⟨k,rfl,hk,hd,rfl⟩:=hrel;go_upto_region 5 with fail
    go_cut [41] from 26 to 43 (fun c wx=>c= .bool (decide (k<m.length)&&notE (m.getD k 101))/\wx=wr)
    case first=>
     by_cases hlt:k<m.length
     ·have hz:k<(st m).size:=by rw[za8];exact hlt
      have hE:Hq (notE (m.getD k 101)=(!(((((st m)[k]'hz).toNat:Int)==101)||((((st m)[k]'hz).toNat:Int)==69)))):=hq (by
       rw[←notE_get m k hz hlt]
       congr 1
       simp[List.getD,hlt])
      have hD:Hq (decide (k<m.length)=true):=hq (decide_eq_true hlt);generalize hx:((st m)[k]'hz).toNat=x at hE;have hy:(((st m)[k]'hz).toNat:Int)=(x:Int):=by rw[hx]
      clear hx HN;by_cases g1:x=101
      ·have e1:((x:Int) !=101)=false:=by rw[g1];rfl
       have HF:=hq (show(decide (k<m.length)&&notE (m.getD k 101))=false by rw[hE.o,g1];simp);clear hE g1;go_wp2_with fail
       go_meet
       exact⟨congrArg Value.bool HF.o.symm,rfl⟩
      ·have e1:((x:Int) !=101)=true:=bne_iff_ne.2 (by omega);have HF:=hq (show(decide (k<m.length)&&notE (m.getD k 101))=((x:Int) !=69) by
        rw[hE.o,hD.o,show((x:Int)==101)=false from beq_eq_false_iff_ne.2 (by omega),Bool.true_and,Bool.false_or];rfl)
       clear hE g1;go_wp2_with fail
       go_meet
       exact⟨congrArg Value.bool HF.o.symm,rfl⟩
     ·have hD:Hq (decide (k<m.length)=false):=hq (decide_eq_false hlt);go_wp2_with fail
      go_meet
      exact⟨by rw[hD.o];rfl,rfl⟩
    case rest=>
     obtain⟨rfl,rfl⟩:=hcut;have hnext:(decide (k<m.length)&&notE (m.getD k 101))=true->k<m.length/\(m.take (k+1)).all notE=true:=fun h=>by
      rw[Bool.and_eq_true,decide_eq_true_iff]at h;refine⟨h.1,zx7 hd.o h.1 ?_⟩;have:=h.2;simpa [List.getD,h.1] using this
     have hlast:(decide (k<m.length)&&notE (m.getD k 101))=false->m.takeWhile notE=m.take k/\m.dropWhile notE=m.drop k:=fun h=>by
      refine tw_is m k hd.o (fun hk=> ?_) (by omega);rw[decide_eq_true hk,Bool.true_and]at h;simpa [List.getD,hk] using h
     generalize (decide (k<m.length)&&notE (m.getD k 101))=B at *;have HX:=hq hnext;have HL:=hq hlast;clear hnext hlast hd;cases B with
     |true=>
      have hlt:=(HX.o rfl).1;have hd:=hq (HX.o rfl).2;clear HX HL;go_wp2_with fail
      go_roundg (m.length-(k+1))
      case rel=>exact⟨k+1,rfl,by omega,hd,rfl⟩
      case measure=>omega
     |false=>
      have HL:=hq (HL.o rfl);clear HX;have hkl:k<=m.length:=by omega
      have HR:Hq (R=⟨neg,(m.take k).takeWhile zj9,zO2 ((m.take k).dropWhile zj9),(rexp (m.drop k)).1,(rexp (m.drop k)).2,digs ((m.take k).takeWhile zj9)&&digs (zy ((m.take k).dropWhile zj9))&&digs (rexp (m.drop k)).2&&zi3 ((m.take k).takeWhile zj9)⟩):=hq (by
       rw[HN.o];unfold zn;rw[HL.o.1,HL.o.2])
      clear HN HL hk;have hxt:(rexp (m.drop k)).2.length<=1099511627776:=by
       have hdl:(m.drop k).length<=1099511627776:=by rw[List.length_drop];omega
       cases hdk:m.drop k with
       |nil=>simp[rexp]
       |cons a b=>
        rw[hdk,List.length_cons]at hdl;have h1:b.tail.length<=b.length:=by rw[List.length_tail];omega
        unfold rexp;simp only;split
        ·simp only;omega
        ·simp only;split<;>omega
      generalize hX:rexp (m.drop k)=X at HR hxt;have HRX:=hq hX;clear hX;go_upto_if 47 with fail
      go_cut [10,11] (fun s d wx=>s= .string (st X.2)/\d= .bool X.1/\wx=wc)
      case first=>
       by_cases hlt:k<m.length
       ·have hdr:m.drop k=m[k]::m.drop (k+1):=List.drop_eq_getElem_cons hlt;have HD:=hq hdr;have HE:Hq (∀x:ByteArray,x=(st m).extract (k+1) m.length->x=st (m.drop (k+1))):=hq (fun x hx=>by rw[hx,zl2]);clear hdr HR;go_upto_region 10 with fail
        go_cut [10] (fun s wx=>s= .string (st (m.drop (k+1)))/\wx=wc)
        case first=>
         go_wp2_with fail
         go_meet
         exact⟨congrArg Value.string (HE.o _ rfl),rfl⟩
        case rest=>
         obtain⟨rfl,rfl⟩:=hcut;rw[HD.o]at HRX;have hrl:(m.drop (k+1)).length<=m.length:=by rw[List.length_drop];omega
         clear HD HE;generalize m.drop (k+1)=r at *;generalize m[k]=c0 at *;cases r with
         |nil=>
          go_wp2_with fail
          go_meet
          exact⟨by rw[←HRX.o];rfl,by rw[←HRX.o];rfl,rfl⟩
         |cons c r=>
          have hy:(((st (c::r))[0]'(by rw[za8];simp)).toNat:Int)=(c.toNat:Int):=rfl;have hf1:((c::r).head?==some (45:UInt8))=((c.toNat:Int)==45):=zB2 c r 45 (by omega);have hf2:((c::r).head?==some (43:UInt8))=((c.toNat:Int)==43):=zB2 c r 43 (by omega);have HE:Hq (∀x:ByteArray,x=(st (c::r)).extract 1 (c::r).length->x=st r):=hq (fun x hx=>by rw[hx,zl2];rfl);have HX:Hq (X=if ((c.toNat:Int)==45)=true then(true,r) else(false,if ((c.toNat:Int)==43)=true then r else c::r)):=hq (by
           rw[←HRX.o];unfold rexp;simp only[hf1,hf2];rfl)
          simp only[List.length_cons]at hrl;clear hf1 hf2 HRX;cases hb:((c.toNat:Int)==45) with
          |true=>
           have HX2:Hq (X=(true,r)):=hq (by rw[HX.o,hb];rfl);clear HX;go_wp2_with fail
           go_meet
           exact⟨by rw[HX2.o];exact congrArg Value.string (HE.o _ rfl),by rw[HX2.o],rfl⟩
          |false=>
           cases hb2:((c.toNat:Int)==43) with
           |true=>
            have HX2:Hq (X=(false,r)):=hq (by rw[HX.o,hb,hb2];rfl);clear HX;go_wp2_with fail
            go_meet
            exact⟨by rw[HX2.o];exact congrArg Value.string (HE.o _ rfl),by rw[HX2.o],rfl⟩
           |false=>
            have HX2:Hq (X=(false,c::r)):=hq (by rw[HX.o,hb,hb2];rfl);clear HX;go_wp2_with fail
            go_meet
            exact⟨by rw[HX2.o],by rw[HX2.o],rfl⟩
       ·have HD:Hq (m.drop k=[]):=hq (List.drop_eq_nil_of_le (by omega));go_wp2_with fail
        go_meet
        exact⟨by rw[←HRX.o,HD.o];rfl,by rw[←HRX.o,HD.o];rfl,rfl⟩
      case rest=>
       obtain⟨rfl,rfl,rfl⟩:=hcut;clear HRX;have hmt:(m.take k).length<=1099511627776:=by rw[List.length_take];omega
       obtain⟨xd,xp⟩:=X;simp only at HR hxt ⊢;have HE:Hq (∀x:ByteArray,x=(st m).extract 0 k->x=st (m.take k)):=hq (fun x hx=>by rw[hx,zz3]);generalize m.take k=A at *;go_upto_region 14 with fail
       go_cut [0] (fun s wx=>s= .string (st A)/\wx=wc)
       case first=>
        go_wp2_with fail
        go_meet
        exact⟨congrArg Value.string (HE.o _ rfl),rfl⟩
       case rest=>
        obtain⟨rfl,rfl⟩:=hcut;clear HE hkl hm HN HL;go_wp2_with fail
        go_loopg [9] A.length (fun g a wx=> ∃k:Nat,a= .int .i64 k/\k+g=A.length/\Hq ((A.take k).all zj9=true)/\wx=wc)
        case atStart=>exact⟨0,rfl,by omega,hq rfl,rfl⟩
        case round=>
         obtain⟨k,rfl,hk,hd,rfl⟩:=hrel;go_upto_region 16 with fail
         go_cut [85] from 76 to 87 (fun c wx=>c= .bool (decide (k<A.length)&&zj9 (A.getD k 46))/\wx=wr)
         case first=>
          by_cases hlt:k<A.length
          ·have hz:k<(st A).size:=by rw[za8];exact hlt
           have hE:Hq (zj9 (A.getD k 46)=(!((((st A)[k]'hz).toNat:Int)==46))):=hq (by
            rw[←notPt_get A k hz hlt]
            congr 1
            simp[List.getD,hlt])
           have hD:Hq (decide (k<A.length)=true):=hq (decide_eq_true hlt);generalize hx:((st A)[k]'hz).toNat=x at hE;have hy:(((st A)[k]'hz).toNat:Int)=(x:Int):=by rw[hx]
           clear hx HR;have HF:=hq (show(decide (k<A.length)&&zj9 (A.getD k 46))=((x:Int) !=46) by
            rw[hE.o,hD.o,Bool.true_and];rfl)
           clear hE;go_wp2_with fail
           go_meet
           exact⟨congrArg Value.bool HF.o.symm,rfl⟩
          ·have hD:Hq (decide (k<A.length)=false):=hq (decide_eq_false hlt);go_wp2_with fail
           go_meet
           exact⟨by rw[hD.o];rfl,rfl⟩
         case rest=>
          obtain⟨rfl,rfl⟩:=hcut;have hnext:(decide (k<A.length)&&zj9 (A.getD k 46))=true->k<A.length/\(A.take (k+1)).all zj9=true:=fun h=>by
           rw[Bool.and_eq_true,decide_eq_true_iff]at h;refine⟨h.1,zx7 hd.o h.1 ?_⟩;have:=h.2;simpa [List.getD,h.1] using this
          have hlast:(decide (k<A.length)&&zj9 (A.getD k 46))=false->A.takeWhile zj9=A.take k/\A.dropWhile zj9=A.drop k:=fun h=>by
           refine tw_is A k hd.o (fun hk=> ?_) (by omega);rw[decide_eq_true hk,Bool.true_and]at h;simpa [List.getD,hk] using h
          generalize (decide (k<A.length)&&zj9 (A.getD k 46))=B at *;have HX:=hq hnext;have HL:=hq hlast;clear hnext hlast hd;cases B with
          |true=>
           have hlt:=(HX.o rfl).1;have hd:=hq (HX.o rfl).2;clear HX HL;go_wp2_with fail
           go_roundg (A.length-(k+1))
           case rel=>exact⟨k+1,rfl,by omega,hd,rfl⟩
           case measure=>omega
          |false=>
           have HL:=hq (HL.o rfl);clear HX;have hkl:k<=A.length:=by omega
           have HR2:Hq (R=⟨neg,A.take k,zO2 (A.drop k),xd,xp,digs (A.take k)&&digs (zy (A.drop k))&&digs xp&&zi3 (A.take k)⟩):=hq (by
            rw[HR.o,HL.o.1,HL.o.2])
           clear HL hk HR;have HE:Hq (∀x:ByteArray,x=(st A).extract 0 k->x=st (A.take k)):=hq (fun x hx=>by rw[hx,zz3]);have hWl:(A.take k).length<=1099511627776:=by rw[List.length_take];omega
           go_upto_region 18 with fail
           go_cut [12] (fun s wx=>s= .string (st (A.take k))/\wx=wc)
           case first=>
            clear HR2;go_wp2_with fail
            go_meet
            exact⟨congrArg Value.string (HE.o _ rfl),rfl⟩
           case rest=>
            obtain⟨rfl,rfl⟩:=hcut;clear HE;go_upto_if 94 with fail
            go_cut [13] (fun s wx=>s= .string (st (zy (A.drop k)))/\wx=wc)
            case first=>
             clear HR2;by_cases hlt:k<A.length
             ·have HE:Hq (∀x:ByteArray,x=(st A).extract (k+1) A.length->x=st (zy (A.drop k))):=hq (fun x hx=>by rw[hx,zl2,List.drop_eq_getElem_cons hlt];rfl);go_wp2_with fail
              go_meet
              exact⟨congrArg Value.string (HE.o _ rfl),rfl⟩
             ·have HD:Hq (A.drop k=[]):=hq (List.drop_eq_nil_of_le (by omega));go_wp2_with fail
              go_meet
              exact⟨by rw[HD.o];rfl,rfl⟩
            case rest=>
             obtain⟨rfl,rfl⟩:=hcut;have hrl:(zy (A.drop k)).length<=1099511627776:=by
              cases hdk:A.drop k with
              |nil=>simp[zy]
              |cons a b=>
               have:=congrArg List.length hdk;rw[List.length_drop,List.length_cons]at this;show b.length<=_;omega
             have hA:k<A.length->zO2 (A.drop k)=zy (A.drop k):=fun h=>by rw[List.drop_eq_getElem_cons h];rfl
             have hB: ¬k<A.length->zO2 (A.drop k)=[]:=fun h=>by rw[List.drop_eq_nil_of_le (by omega)];rfl
             have HA:Hq (k<A.length->R=⟨neg,A.take k,zy (A.drop k),xd,xp,digs (A.take k)&&digs (zy (A.drop k))&&digs xp&&zi3 (A.take k)⟩):=hq (fun h=>by rw[HR2.o,hA h]);have HB:Hq (¬k<A.length->R=⟨neg,A.take k,[],xd,xp,digs (A.take k)&&digs (zy (A.drop k))&&digs xp&&zi3 (A.take k)⟩):=hq (fun h=>by rw[HR2.o,hB h]);clear hA hB HR2;generalize zy (A.drop k)=Q at *;generalize hW:A.take k=W at *;clear hW;go_upto_region 22 with fail
             go_cut [14] (fun c wx=>c= .bool (digs W&&digs Q&&digs xp&&zi3 W)/\wx=wc)
             case first=>
              clear HA HB;go_wp2_with fail
              refine(zG2 W _ hWl).mono ?_;cases h1:digs W with
              |false=>
               rintro e w1 ⟨rfl,rfl⟩;go_wp2_with fail
               go_meet
               exact⟨congrArg Value.bool (by simp[h1]),rfl⟩
              |true=>
               rintro e w1 ⟨rfl,rfl⟩;go_wp2_with fail
               refine(zG2 Q _ hrl).mono ?_;cases h2:digs Q with
               |false=>
                rintro e w1 ⟨rfl,rfl⟩;go_wp2_with fail
                go_meet
                exact⟨congrArg Value.bool (by simp[h2]),rfl⟩
               |true=>
                rintro e w1 ⟨rfl,rfl⟩;go_wp2_with fail
                refine(zG2 xp _ hxt).mono ?_;cases h3:digs xp with
                |false=>
                 rintro e w1 ⟨rfl,rfl⟩;go_wp2_with fail
                 go_meet
                 exact⟨congrArg Value.bool (by simp[h3]),rfl⟩
                |true=>
                 rintro e w1 ⟨rfl,rfl⟩;have hp:0<W.length:=by
                  have:=of_decide_eq_true h1;exact List.length_pos_iff.2 this.1
                 have hz:0<(st W).size:=by rw[za8];exact hp
                 have HW:Hq ((digs W&&digs Q&&digs xp&&zi3 W)=(W==[48]||((((st W)[0]'hz).toNat:Int) !=48))):=hq (by
                  rw[h1,h2,h3,Bool.true_and,Bool.true_and,Bool.true_and,get_st];unfold zi3;cases W with
                  |nil=>simp at hp
                  |cons c t=>
                   rw[Bool.eq_iff_iff,decide_eq_true_iff,Bool.or_eq_true,beq_iff_eq,bne_iff_ne,List.head?_cons];refine or_congr Iff.rfl ?_;show(some c≠some 48)↔((c.toNat:Int)≠48);rw[Ne,Option.some.injEq,←UInt8.toNat_inj];show¬c.toNat=48↔_;omega)
                 clear h1 h2 h3;by_cases e48:W=[48]
                 ·subst e48;go_wp2_with fail
                  go_meet
                  exact⟨congrArg Value.bool (HW.o.trans rfl).symm,rfl⟩
                 ·have e49:(W==[48])=false:=beq_eq_false_iff_ne.2 e48;have HW2:Hq ((digs W&&digs Q&&digs xp&&zi3 W)=((((st W)[0]'hz).toNat:Int) !=48)):=hq (by rw[HW.o,e49,Bool.false_or]);clear HW;have e50: ¬W=[48]:=e48;go_wp2_with fail
                  go_meet
                  exact⟨congrArg Value.bool HW2.o.symm,rfl⟩
             case rest=>
              obtain⟨rfl,rfl⟩:=hcut;generalize (digs W&&digs Q&&digs xp&&zi3 W)=OK at *;by_cases hlt:k<A.length
              ·have HN:=hq (HA.o hlt);clear HA HB;go_wp2_with fail
               refine bodyPost_ret (v:= .tuple #[.bool neg,.string (st W),.string (st Q),.bool xd,.string (st xp),.bool OK]) ?_ rfl ?_
               ·simp[results,Tryz.results85,go_sem]
               ·exact ⟨by rw[HN.o],rfl⟩
              ·have HN:=hq (HB.o hlt);clear HA HB;have hke:k=A.length:=by omega
               subst hke;go_wp2_with fail
               refine bodyPost_ret (v:= .tuple #[.bool neg,.string (st W),.string (st []),.bool xd,.string (st xp),.bool OK]) ?_ rfl ?_
               ·simp[results,Tryz.results85,go_sem]
               ·exact ⟨by rw[HN.o],rfl⟩
theorem zE5(c d:UInt8)(x:Bs):zk1 (c::d::x)=if c=48 then zk1 (d::x) else c::d::x:=by rw[zk1]
def zx4:Bs->Bool
 |c::_::_=>(c.toNat:Int)==48
 |_=>false
theorem zeroAhead_no {x:Bs} (h:zx4 x=false):zk1 x=x:=by
 cases x with
 |nil=>rfl
 |cons c x=>
  cases x with
  |nil=>rfl
  |cons d x=>
   have h1:((c.toNat:Int)==48)=false:=h;rw[zE5,if_neg];intro hc;subst hc;simp at h1
theorem zM9 {x:Bs} (h:zx4 x=true):zk1 x=zk1 x.tail/\x.tail.length+1=x.length:=by
 cases x with
 |nil=>cases h
 |cons c x=>
  cases x with
  |nil=>cases h
  |cons d x=>
   have h1:((c.toNat:Int)==48)=true:=h;rw[beq_iff_eq]at h1;have h2:c=48:=UInt8.toNat_inj.1 (show c.toNat=48 by omega);rw[zE5,if_pos h2];exact⟨rfl,rfl⟩
def zo3:Bs->Bool
 |c::_=>(c.toNat:Int)==48
 |_=>false
theorem zw0(c:UInt8)(x:Bs):zo3 (c::x)=true↔c=48:=by
 show((c.toNat:Int)==48)=true↔_;rw[beq_iff_eq,←UInt8.toNat_inj];show _↔c.toNat=48;omega
theorem zJ4 {x:Bs} (h:zo3 x=false):zd1 x=x:=by
 cases x with
 |nil=>rfl
 |cons c x=>rw[zj8,if_neg (fun hc=>by rw[(zw0 c x).2 hc]at h;cases h)]
theorem zG8 {x:Bs} (h:zo3 x=true):zd1 x=zd1 x.tail/\x.tail.length+1=x.length:=by
 cases x with
 |nil=>cases h
 |cons c x=>rw[zj8,if_pos ((zw0 c x).1 h)];exact⟨rfl,rfl⟩
theorem stripR_step(y:Bs)(c:UInt8):zd6 (y++[c])=if c=48 then zd6 y else y++[c]:=zE6 y c
theorem snoc_of {y:Bs} (h:y≠ []): ∃z c,y=z++[c]:=⟨y.dropLast,y.getLast h,(List.dropLast_concat_getLast h).symm⟩
theorem dig_sub {c:Nat} (h:48<=c)(h':c<=57):IntKind.u8.wrap ((c:Int)-48)=(c:Int)-48:=by
 unfold IntKind.wrap;simp[IntKind.bits,IntKind.signed];omega
theorem rexp_facts(l:Bs):(rexp l).2.length<=l.length+1:=by
 cases l with
 |nil=>simp[rexp]
 |cons a b=>
  have h1:b.tail.length<=b.length:=by rw[List.length_tail];omega
  unfold rexp;simp only[List.length_cons];split
  ·simp only;omega
  ·simp only;split<;>omega
theorem zF6(neg:Bool)(m:Bs):(zn neg m).whole.length<=m.length/\(zn neg m).frac.length<=m.length/\(zn neg m).exp.length<=m.length+1/\((zn neg m).ok=true->(zn neg m).exp.all za7=true):=by
 unfold zn;simp only;have h1:=(List.takeWhile_prefix notE (l:=m)).length_le;have h2:=(List.takeWhile_prefix zj9 (l:=m.takeWhile notE)).length_le;have h3:=(List.dropWhile_suffix zj9 (l:=m.takeWhile notE)).length_le;have h4:=(List.dropWhile_suffix notE (l:=m)).length_le;have h5:=rexp_facts (m.dropWhile notE);have h6:(zO2 ((m.takeWhile notE).dropWhile zj9)).length<=((m.takeWhile notE).dropWhile zj9).length:=by
  cases (m.takeWhile notE).dropWhile zj9 with
  |nil=>simp[zO2]
  |cons a b=>simp[zO2]
 refine⟨by omega,by omega,by omega,fun h=> ?_⟩;simp only[Bool.and_eq_true]at h;exact(of_decide_eq_true h.1.2).2
theorem zF7(l:Bs):(zd8 l).whole.length<=l.length/\(zd8 l).frac.length<=l.length/\(zd8 l).exp.length<=l.length+1/\((zd8 l).ok=true->(zd8 l).exp.all za7=true):=by
 unfold zd8;split
 ·obtain ⟨a,b,c,d⟩:=zF6 true l.tail;rw[List.length_tail]at a b c;exact⟨by omega,by omega,by omega,d⟩
 ·exact zF6 false l
def PPost(r:Dec×Int)(w:World)(e:Ending)(w':World):Prop:=e= .returned (.tuple #[r.1.val,.int .i64 r.2])/\Below w.heap.size w w'
theorem zA1(l:Bs)(w:World)(hl:l.length<=1099511627776):
 Calls Tryz.prog 44 #[.string (st l)] w (PPost (zb3 l) w):=by
 rw[←rparseM_eq];generalize hR:rparseM l=R;have HR:=hq hR;clear hR;go_enter Tryz.func44,Tryz.ntmps44
 have hW:=Whole.made w 59 #[.bool false,.string (st []),.int .i64 0];have hb:=za0 w (.cells #[.bool false,.string (st []),.int .i64 0] 59);go_wp2_with fail
 refine(rparts_any l _ hl).mono ?_;rintro e w1 ⟨rfl,hw1⟩;obtain rfl:=hw1.symm;have HR2:Hq (R=(if (zd8 l).ok=false then(.zero,2) else if 1000<(zd8 l).whole.length+(zd8 l).frac.length then(.zero,3)
  else if 9<(zk1 (zd8 l).exp).length then(.zero,4) else rnum (zd8 l).neg (zd8 l).down (zk1 (zd8 l).exp) (zd8 l).frac (zd1 ((zd8 l).whole++(zd8 l).frac)))):=hq HR.o.symm
 have hlen:(zd8 l).whole.length<=1099511627776/\(zd8 l).frac.length<=1099511627776/\(zd8 l).exp.length<=1099511627777:=by
  obtain⟨a,b,c,_⟩:=zF7 l;exact⟨by omega,by omega,by omega⟩
 have hdg:(zd8 l).ok=true->(zd8 l).exp.all za7=true:=(zF7 l).2.2.2;have HDG:=hq hdg;clear hdg;generalize zd8 l=q at *;obtain⟨neg,whole,frac,down,ex,ok⟩:=q;simp only at HR2 hlen HDG ⊢;clear HR;obtain⟨hl1,hl2,hl3⟩:=hlen;generalize hWW:w.alloc (.cells #[.bool false,.string (st []),.int .i64 0] 59)=W at *;clear hWW;obtain⟨r0,r1,r2⟩:=za2 hW;have q0:=hW.free 0;have q1:=hW.free 1;have q2:=hW.free 2;cases ok with
 |false=>
  have HN:=hq (HR2.o.trans (if_pos rfl));clear HR2;go_wp2_with fail
  refine bodyPost_ret (v:= .tuple #[Dec.zero.val,.int .i64 2]) ?_ rfl ?_
  ·obtain ⟨z0,z1,z2⟩:=za2 (by simpa using (((hW.put 0 (.bool false)).put 1 (.string ⟨#[]⟩)).put 2 (.int .i64 0)));simp[results,Tryz.results44,go_sem,z0,z1,z2,Dec.zero,Dec.val]
  ·exact ⟨by rw[HN.o],((hb.setCell (p:=⟨w.heap.size,0,none⟩) (by simp) _).setCell (p:=⟨w.heap.size,1,none⟩) (by simp) _).setCell (p:=⟨w.heap.size,2,none⟩) (by simp) _⟩
 |true=>
  have HR3:=hq (HR2.o.trans (if_neg (by simp)));clear HR2;by_cases hk:1000<whole.length+frac.length
  ·have HN:=hq (HR3.o.trans (if_pos hk));clear HR3;go_wp2_with fail
   refine bodyPost_ret (v:= .tuple #[Dec.zero.val,.int .i64 3]) ?_ rfl ?_
   ·obtain ⟨z0,z1,z2⟩:=za2 (by simpa using (((hW.put 0 (.bool false)).put 1 (.string ⟨#[]⟩)).put 2 (.int .i64 0)));simp[results,Tryz.results44,go_sem,z0,z1,z2,Dec.zero,Dec.val]
   ·exact ⟨by rw[HN.o],((hb.setCell (p:=⟨w.heap.size,0,none⟩) (by simp) _).setCell (p:=⟨w.heap.size,1,none⟩) (by simp) _).setCell (p:=⟨w.heap.size,2,none⟩) (by simp) _⟩
  ·have HR4:=hq (HR3.o.trans (if_neg hk));clear HR3;go_wp2_with fail
   go_loopg [8] ex.length (fun g a wx=> ∃x:Bs,a= .string (st x)/\x.length=g/\x.length<=ex.length/\Hq (zk1 x=zk1 ex)/\Hq (x.all za7=true)/\wx=W)
   case atStart=>exact⟨ex,rfl,rfl,by omega,hq rfl,hq (HDG.o (by trivial)),rfl⟩
   case round=>
    obtain⟨x,rfl,hx,hxl,hsz,hxd,rfl⟩:=hrel;have hx1:x.length<=gk:=by omega
    have hx2:gk<=x.length:=by omega
    clear hx;go_upto_region 6 with fail
    go_cut [39] from 32 to 41 (fun c wx=>c= .bool (zx4 x)/\wx=wr)
    case first=>
     clear HR4;cases x with
     |nil=>
      go_wp2_with fail
      go_meet
      exact⟨rfl,rfl⟩
     |cons c x=>
      cases x with
      |nil=>
       go_wp2_with fail
       go_meet
       exact⟨rfl,rfl⟩
      |cons d x=>
       have hy:(((st (c::d::x))[0]'(by rw[za8];simp)).toNat:Int)=(c.toNat:Int):=rfl;simp only[List.length_cons]at hx1 hx2 hxl;go_wp2_with fail
       go_meet
       exact⟨rfl,rfl⟩
    case rest=>
     obtain⟨rfl,rfl⟩:=hcut;have hY:= @zM9 x;have hN:= @zeroAhead_no x;generalize zx4 x=B at *;have HY:=hq hY;have HN:=hq hN;clear hY hN;cases B with
     |true=>
      obtain⟨e1,e2⟩:=HY.o rfl;have HE:=hq (e1.symm.trans hsz.o);have HT:Hq (x.tail.all za7=true):=hq (by
       have:=hxd.o;rw[List.all_eq_true]at this ⊢;exact fun y hy=>this y (List.mem_of_mem_tail hy))
      have HC:Hq (∀y:ByteArray,y=(st x).extract 1 x.length->y=st x.tail):=hq (fun y hy=>by rw[hy,zl2,List.drop_one]);clear e1 HY HN hsz hxd;go_wp2_with fail
      go_roundg (gk-1)
      case rel=>exact⟨x.tail,congrArg Value.string (HC.o _ rfl),by omega,by omega,HE,HT,rfl⟩
      case measure=>omega
     |false=>
      have HZ:=hq ((HN.o rfl).symm.trans hsz.o);clear HY HN hsz;clear HDG;rw[←HZ.o]at HR4;clear HZ hxl hx1 hx2;by_cases h9:9<x.length
      ·have HN:=hq (HR4.o.trans (if_pos h9));clear HR4;go_wp2_with fail
       refine bodyPost_ret (v:= .tuple #[Dec.zero.val,.int .i64 4]) ?_ rfl ?_
       ·obtain ⟨z0,z1,z2⟩:=za2 (by simpa using (((hW.put 0 (.bool false)).put 1 (.string ⟨#[]⟩)).put 2 (.int .i64 0)));simp[results,Tryz.results44,go_sem,z0,z1,z2,Dec.zero,Dec.val]
       ·exact ⟨by rw[HN.o],((hb.setCell (p:=⟨w.heap.size,0,none⟩) (by simp) _).setCell (p:=⟨w.heap.size,1,none⟩) (by simp) _).setCell (p:=⟨w.heap.size,2,none⟩) (by simp) _⟩
      ·have HR5:=hq (HR4.o.trans (if_neg h9));clear HR4;have hbd:=zy3 x hxd.o (by omega);go_wp2_with fail
       go_loop [10,11] (fun s i=> ∃k:Nat,k<=x.length/\i= .int .i64 k/\s= .int .i64 (zc9 (x.take k))) (fun _ i=>x.length-(intOf i).toNat)
       case atStart=>exact⟨0,by omega,rfl,rfl⟩
       case round=>
        obtain⟨k,hk,rfl,rfl⟩:=hrel;have hbk:=zy3 (x.take k) (by have:=hxd.o;rw[List.all_eq_true]at this ⊢;exact fun y hy=>this y (List.mem_of_mem_take hy)) (by rw[List.length_take];omega);obtain⟨hb1,hb2⟩:=hbk;by_cases hlt:k<x.length
        ·have hz:k<(st x).size:=by rw[za8];exact hlt
         have hdk:48<=((st x)[k]'hz).toNat/\((st x)[k]'hz).toNat<=57:=by
          have:=List.all_eq_true.1 hxd.o x[k] (List.getElem_mem hlt);unfold za7 at this;simp only[Bool.and_eq_true,decide_eq_true_eq]at this;exact this
         have hsn:Hq (zc9 (x.take (k+1))=zc9 (x.take k)*10+((((st x)[k]'hz).toNat:Int)-48)):=hq (by
          rw[List.take_succ_eq_append_getElem hlt,zu9];rfl)
         have hwr:=dig_sub hdk.1 hdk.2;generalize hX:((st x)[k]'hz).toNat=c at *;have hy:(((st x)[k]'hz).toNat:Int)=(c:Int):=by rw[hX]
         clear hX;generalize zc9 (x.take k)=s at *;generalize hS:zc9 (x.take (k+1))=s' at *;obtain⟨hd1,hd2⟩:=hdk;have HS:=hq hS;clear hS;go_wp2_with fail
         go_round
         case rel=>exact⟨k+1,by omega,by go_num,by rw[HS.o,hsn.o];exact zb5 (by omega)⟩
         case measure=>simp[intOf];omega
        ·obtain rfl:k=x.length:=by omega
         rw[List.take_length];clear hxd hb1 hb2;obtain⟨hb1,hb2⟩:=hbd;have HE1:Hq (zz0 down x=if down=true then-zc9 x else zc9 x):=hq rfl;have HR7:Hq (∀D,zd1 (whole++frac)=D->R=if D=[] then(.zero,0) else if zz0 down x-frac.length+D.length-(zd6 D).length< -1000000\/1000000<zz0 down x-frac.length+D.length-(zd6 D).length then(.zero,4) else(⟨neg,zd6 D,zz0 down x-frac.length+D.length-(zd6 D).length⟩,0)):=hq (fun D hD=>by
          rw[HR5.o,hD];rfl)
         clear HR5;have he1:-999999999<=zz0 down x/\zz0 down x<=999999999:=by unfold zz0;split<;>omega
         generalize zc9 x=X at *;generalize hE:zz0 down x=E0 at *;clear hE;go_upto_if 60 with fail
         go_cut [10] (fun s wx=>s= .int .i64 E0/\wx=wc)
         case first=>
          cases down with
          |true=>
           go_wp2_with fail
           go_meet
           exact⟨by rw[HE1.o];rfl,rfl⟩
          |false=>
           go_wp2_with fail
           go_meet
           exact⟨by rw[HE1.o];rfl,rfl⟩
         case rest=>
          obtain⟨rfl,rfl⟩:=hcut;clear HE1 hb1 hb2 hlt hk h9;obtain⟨he1,he2⟩:=he1;go_wp2_with fail
          rw[zl7];have hal:(whole++frac).length<=1000:=by rw[List.length_append];omega
          have HD0:=hq (zw4 (whole++frac));have hfl:frac.length<=1000:=by omega
          generalize whole++frac=ALL at *
          go_loopg [12] ALL.length (fun g a wx=> ∃y:Bs,a= .string (st y)/\y.length<=g/\g<=y.length/\y.length<=1000/\Hq (zd1 y=zd1 ALL)/\wx=wc)
          case atStart=>exact⟨ALL,rfl,by omega,by omega,hal,hq rfl,rfl⟩
          case round=>
           obtain⟨y,rfl,hy1,hy2,hyl,hys,rfl⟩:=hrel;go_upto_region 19 with fail
           go_cut [77] from 70 to 79 (fun c wx=>c= .bool (zo3 y)/\wx=wr)
           case first=>
            clear HR7 HD0 hys;cases y with
            |nil=>
             go_wp2_with fail
             go_meet
             exact⟨rfl,rfl⟩
            |cons c y=>
             have hy:(((st (c::y))[0]'(by rw[za8];simp)).toNat:Int)=(c.toNat:Int):=rfl;simp only[List.length_cons]at hy1 hy2 hyl;go_wp2_with fail
             go_meet
             exact⟨rfl,rfl⟩
           case rest=>
            obtain⟨rfl,rfl⟩:=hcut;have hY:= @zG8 y;have hN:= @zJ4 y;generalize zo3 y=B at *;have HY:=hq hY;have HN:=hq hN;clear hY hN;cases B with
            |true=>
             obtain⟨e1,e2⟩:=HY.o rfl;have HE:=hq (e1.symm.trans hys.o);have HC:Hq (∀z:ByteArray,z=(st y).extract 1 y.length->z=st y.tail):=hq (fun z hz=>by rw[hz,zl2,List.drop_one]);clear e1 HY HN hys HR7 HD0;go_wp2_with fail
             go_roundg (gk-1)
             case rel=>exact⟨y.tail,congrArg Value.string (HC.o _ rfl),by omega,by omega,by omega,HE,rfl⟩
             case measure=>omega
            |false=>
             have hys2:=(HN.o rfl).symm.trans hys.o;have HD:=hq (HR7.o y hys2.symm);have HY0:Hq (y.head?≠some 48):=hq (by rw[hys2];exact HD0.o);clear HY HN hys hys2 HR7 HD0 hy1 hy2 hal;by_cases hy0:y=[]
             ·have HN:=hq (HD.o.trans (if_pos hy0));subst hy0;clear HD HY0;go_wp2_with fail
              refine bodyPost_ret (v:= .tuple #[Dec.zero.val,.int .i64 0]) ?_ rfl ?_
              ·obtain ⟨z0,z1,z2⟩:=za2 (by simpa using (((hW.put 0 (.bool false)).put 1 (.string ⟨#[]⟩)).put 2 (.int .i64 0)));simp[results,Tryz.results44,go_sem,z0,z1,z2,Dec.zero,Dec.val]
              ·exact ⟨by rw[HN.o],((hb.setCell (p:=⟨w.heap.size,0,none⟩) (by simp) _).setCell (p:=⟨w.heap.size,1,none⟩) (by simp) _).setCell (p:=⟨w.heap.size,2,none⟩) (by simp) _⟩
             ·have HD2:=hq (HD.o.trans (if_neg hy0));clear HD;have hem:y.isEmpty=false:=by cases y with|nil=>exact absurd rfl hy0|cons _ _=>rfl
              have hyp:0<y.length:=List.length_pos_iff.2 hy0;go_wp2_with fail
              go_loopg [10,12] y.length (fun g v a wx=> ∃(z:Bs) (e:Int),a= .string (st z)/\v= .int .i64 e/\z.length<=g/\0<z.length/\z.length<=1000/\Hq (e+z.length=E0-frac.length+y.length)/\-1000001000<=e/\e+z.length<=1000001000/\Hq (zd6 z=zd6 y)/\Hq (z.head?≠some 48)/\wx=wc)
              case atStart=>exact⟨y,E0-frac.length,rfl,rfl,by omega,hyp,hyl,hq rfl,by omega,by omega,hq rfl,HY0,rfl⟩
              case round=>
               obtain⟨z,e,rfl,rfl,hz1,hz2,hz3,hze,he3,he4,hzs,hzh,rfl⟩:=hrel;have hzi:z.length-1<(st z).size:=by rw[za8];omega
               obtain⟨t,c,htc⟩:=snoc_of (List.length_pos_iff.1 hz2);have htl:z.length=t.length+1:=by rw[htc];simp
               have hc:((st z)[z.length-1]'hzi)=c:=by
                rw[get_st];simp[htc]
               have hcut2:Hq (∀u:ByteArray,u=(st z).extract 0 (z.length-1)->u=st t):=hq (fun u hu=>by
                rw[hu,zz3];congr 1;rw[htl,htc];simp)
               have HS:Hq (zd6 z=if c=48 then zd6 t else z):=hq (by rw[htc];exact stripR_step t c);have HC:Hq (c=48↔((c.toNat:Int)==48)=true):=hq (by
                rw[beq_iff_eq,←UInt8.toNat_inj];show c.toNat=48↔_;omega)
               have HT0:Hq (c=48->t≠ []):=hq (fun h ht=>hzh.o (by rw[htc,ht,h];rfl));have HTH:Hq (t≠ []->t.head?≠some 48):=hq (fun h=>by
                have:=hzh.o;rw[htc]at this;cases t with
                |nil=>exact absurd rfl h
                |cons a b=>exact this)
               have hy:((((st z)[z.length-1]'hzi).toNat:Nat):Int)=(c.toNat:Int):=by rw[hc]
               have htl1:t.length+1<=z.length:=by omega
               have htl2:z.length<=t.length+1:=by omega
               clear htc hc htl HY0;cases hB:((c.toNat:Int)==48) with
               |true=>
                have h48:=HC.o.2 hB;have hS2:=hq ((HS.o.trans (if_pos h48)).symm.trans hzs.o);have ht0:=HT0.o h48;have hth:=hq (HTH.o ht0);have htp:0<t.length:=List.length_pos_iff.2 ht0;clear HS HC HT0 HTH h48 ht0 HD2;go_wp2_with fail
                go_roundg (gk-1)
                case rel=>exact⟨t,e+1,congrArg Value.string (hcut2.o _ rfl),rfl,by omega,htp,by omega,hq (by have:=hze.o;omega),by omega,by omega,hS2,hth,rfl⟩
                case measure=>omega
               |false=>
                have hS2:=(HS.o.trans (if_neg (fun h=>by rw[HC.o.1 h]at hB;cases hB))).symm.trans hzs.o;have HE:Hq (R=if e< -1000000\/1000000<e then(.zero,4) else(⟨neg,z,e⟩,0)):=hq (by
                 have h1:=hze.o;rw[HD2.o,←hS2,show E0-(frac.length:Int)+(y.length:Int)-(z.length:Int)=e by omega])
                clear HS HC HT0 HTH hS2 HD2 hcut2 hze hzs hzh;by_cases g1:e< -1000000
                ·have HN:=hq (HE.o.trans (if_pos (.inl g1)));clear HE;go_wp2_with fail
                 refine bodyPost_ret (v:= .tuple #[Dec.zero.val,.int .i64 4]) ?_ rfl ?_
                 ·obtain ⟨z0,z1,z2⟩:=za2 (by simpa using (((hW.put 0 (.bool false)).put 1 (.string ⟨#[]⟩)).put 2 (.int .i64 0)));simp[results,Tryz.results44,go_sem,z0,z1,z2,Dec.zero,Dec.val]
                 ·exact ⟨by rw[HN.o],((hb.setCell (p:=⟨w.heap.size,0,none⟩) (by simp) _).setCell (p:=⟨w.heap.size,1,none⟩) (by simp) _).setCell (p:=⟨w.heap.size,2,none⟩) (by simp) _⟩
                ·by_cases g2:1000000<e
                 ·have HN:=hq (HE.o.trans (if_pos (.inr g2)));clear HE;go_wp2_with fail
                  refine bodyPost_ret (v:= .tuple #[Dec.zero.val,.int .i64 4]) ?_ rfl ?_
                  ·obtain ⟨z0,z1,z2⟩:=za2 (by simpa using (((hW.put 0 (.bool false)).put 1 (.string ⟨#[]⟩)).put 2 (.int .i64 0)));simp[results,Tryz.results44,go_sem,z0,z1,z2,Dec.zero,Dec.val]
                  ·exact ⟨by rw[HN.o],((hb.setCell (p:=⟨w.heap.size,0,none⟩) (by simp) _).setCell (p:=⟨w.heap.size,1,none⟩) (by simp) _).setCell (p:=⟨w.heap.size,2,none⟩) (by simp) _⟩
                 ·have HN:=hq (HE.o.trans (if_neg (by omega)));clear HE;go_wp2_with fail
                  refine bodyPost_ret (v:= .tuple #[(Dec.mk neg z e).val,.int .i64 0]) ?_ rfl ?_
                  ·obtain ⟨z0,z1,z2⟩:=za2 (by simpa using (((hW.put 0 (.bool neg)).put 1 (.string (st z))).put 2 (.int .i64 e)));simp[results,Tryz.results44,go_sem,z0,z1,z2,Dec.val]
                  ·exact ⟨by rw[HN.o],((hb.setCell (p:=⟨w.heap.size,0,none⟩) (by simp) _).setCell (p:=⟨w.heap.size,1,none⟩) (by simp) _).setCell (p:=⟨w.heap.size,2,none⟩) (by simp) _⟩
theorem zQ6(r:Nat)(h:r<10):(⟨#[48,49,50,51,52,53,54,55,56,57]⟩:ByteArray).extract r (r+1)=st [UInt8.ofNat (48+r)]:=by
 match r,h with
 |0,_=>rfl
 |1,_=>rfl
 |2,_=>rfl
 |3,_=>rfl
 |4,_=>rfl
 |5,_=>rfl
 |6,_=>rfl
 |7,_=>rfl
 |8,_=>rfl
 |9,_=>rfl
 |n+10,h=>omega
def DcmlPost(s:ByteArray)(w:World)(e:Ending)(w':World):Prop:=e= .returned (.string s)/\ ∃m,w'=w.drewN m
def Dcml(n:Int):Prop:= ∀w:World,Calls Tryz.prog 88 #[.int .i64 n] w fun e w'=>e= .returned (.string (st (Lib.itoa n)))/\ ∃m,w'=w.drewN m
theorem itoa_of(n:Int):Lib.itoa n=if n<0 then 45::Lib.decDigits n.natAbs else Lib.decDigits n.natAbs:=by
 unfold Lib.itoa;split
 ·rfl
 ·rename_i h;rw[show n.toNat=n.natAbs by omega]
theorem zQ(u:Nat):Lib.itoa (u:Int)=Lib.decDigits u:=by rw[itoa_of,if_neg (by omega)];rfl
theorem zA8(u:Nat)(hu:0<u):Lib.itoa (-(u:Int))=45::Lib.decDigits u:=by rw[itoa_of,if_pos (by omega),show(-(u:Int)).natAbs=u by omega]
theorem dec_step(q r:Nat)(h:r<10)(hq:0<q):Lib.decDigits (10*q+r)=Lib.decDigits q++[UInt8.ofNat (48+r)]:=by
 rw[zz2 (by omega),show(10*q+r)/10=q by omega,show(10*q+r)%10=r by omega]
theorem zM8(r:Nat)(h:r<10):Dcml r:=by
 intro w;have hc:=zQ6 r h;have HI:Hq (Lib.itoa r=[UInt8.ofNat (48+r)]):=hq (by rw[zQ,zq8 h]);generalize UInt8.ofNat (48+r)=c at *;go_enter Tryz.func88,Tryz.ntmps88
 go_wp2_with fail
 go_ret
 exact⟨by rw[HI.o];rfl,0,rfl⟩
theorem dcml_neg(r:Nat)(h0:0<r)(h:r<10):Dcml (-(r:Int)):=by
 intro w;have hc:=zQ6 r h;have HI:Hq (st (Lib.itoa (-(r:Int)))=st [45]++st [UInt8.ofNat (48+r)]):=hq (by rw[zA8 r h0,zq8 h];rfl);generalize UInt8.ofNat (48+r)=c at *;have g1: ¬(0:Int)<=-(r:Int):=by omega
 have g2: ¬(0:Int)< -(r:Int):=by omega
 have g3:(-10:Int)< -(r:Int):=by omega
 go_enter Tryz.func88,Tryz.ntmps88
 go_wp2_with fail
 go_ret
 exact⟨by rw[HI.o];rfl,0,rfl⟩
theorem dcml_step(q r n:Nat)(h:r<10)(hq0:0<q)(hn:n=10*q+r)(hb:n<=9223372036854775807)(ih:Dcml q):Dcml (n:Int):=by
 intro w;have hc:=zQ6 r h;have HI:Hq (st (Lib.itoa q)++st [UInt8.ofNat (48+r)]=st (Lib.itoa (n:Int))):=hq (by
  rw[zl7,zQ,zQ,hn,dec_step q r h hq0])
 generalize UInt8.ofNat (48+r)=c at *;have e1:(n:Int).tdiv 10=q:=by rw[Int.tdiv_eq_ediv_of_nonneg (by omega)];omega
 have e2:(n:Int).tmod 10=r:=by rw[Int.tmod_eq_emod_of_nonneg (by omega)];omega
 have e3:IntKind.i64.wrap ((r:Int)+1)=(r:Int)+1:=IntWalk.i64_in _ (by omega);have e4:((r:Int)+1).toNat=r+1:=by omega
 have e7:wrap64 (q:Int)=(q:Int):=by unfold wrap64;omega
 have hL:(Lib.itoa q).length<=1000:=Nat.le_trans (Lib.itoa_length_le _ (by omega) (by omega)) (by omega);have hz:(st (Lib.itoa q)).size<=1000:=by rw[za8];exact hL
 have g1: ¬(n:Int)<10:=by omega
 have g2:(0:Int)<(n:Int):=by omega
 have g3:(0:Int)<=(n:Int):=by omega
 have IH:=hq ih;clear ih hn;go_enter Tryz.func88,Tryz.ntmps88
 go_upto_region 5 with fail
 go_quiet ((go_at_call 88;exact Calls.quiet_of (IH.o _)))
 go_wp2_with fail
 go_ret
 exact⟨by rw[←HI.o];rfl,nq,rfl⟩
theorem dcml_stepN(q r n:Nat)(h:r<10)(hq0:0<q)(hn:n=10*q+r)(hb:n<=9223372036854775808)(ih:Dcml (-(q:Int))):Dcml (-(n:Int)):=by
 intro w;have hc:=zQ6 r h;have HI:Hq (st (Lib.itoa (-(q:Int)))++st [UInt8.ofNat (48+r)]=st (Lib.itoa (-(n:Int)))):=hq (by
  rw[zl7,zA8 q hq0,zA8 n (by omega),hn,dec_step q r h hq0];rfl)
 generalize UInt8.ofNat (48+r)=c at *;have e1:(-(n:Int)).tdiv 10=-(q:Int):=by rw[Int.neg_tdiv,Int.tdiv_eq_ediv_of_nonneg (by omega)];omega
 have e2:(-(n:Int)).tmod 10=-(r:Int):=by rw[Int.neg_tmod,Int.tmod_eq_emod_of_nonneg (by omega)];omega
 have e5:IntKind.i64.wrap (- -(r:Int))=(r:Int):=by rw[Int.neg_neg];exact IntWalk.i64_in _ (by omega)
 have e6:IntKind.i64.wrap (r:Int)=(r:Int):=IntWalk.i64_in _ (by omega);have e3:IntKind.i64.wrap ((r:Int)+1)=(r:Int)+1:=IntWalk.i64_in _ (by omega);have e4:((r:Int)+1).toNat=r+1:=by omega
 have e7:wrap64 (-(q:Int))=-(q:Int):=by unfold wrap64;omega
 have hL:(Lib.itoa (-(q:Int))).length<=1000:=Nat.le_trans (Lib.itoa_length_le _ (by omega) (by omega)) (by omega);have hz:(st (Lib.itoa (-(q:Int)))).size<=1000:=by rw[za8];exact hL
 have g1: ¬(0:Int)<=-(n:Int):=by omega
 have g2: ¬(0:Int)< -(n:Int):=by omega
 have g3: ¬(-10:Int)< -(n:Int):=by omega
 have IH:=hq ih;clear ih hn;go_enter Tryz.func88,Tryz.ntmps88
 go_upto_region 8 with fail
 go_quiet ((go_at_call 88;exact Calls.quiet_of (IH.o _)))
 go_wp2_with fail
 go_ret
 exact⟨by rw[←HI.o];rfl,nq,rfl⟩
theorem dcml_any(n:Int)(h0:-9223372036854775808<=n)(h1:n<=9223372036854775807):Dcml n:=by
 have key: ∀(m:Nat) (u:Nat),u<=m->(u<=9223372036854775807->Dcml u)/\(0<u->u<=9223372036854775808->Dcml (-(u:Int))):=by
  intro m;induction m with
  |zero=>intro u hu;obtain rfl:u=0:=by omega
         exact⟨fun _=>zM8 0 (by omega),fun h=>absurd h (by omega)⟩
  |succ m ih=>
   intro u hu;by_cases hs:u<10
   ·exact ⟨fun _=>zM8 u hs,fun h _=>dcml_neg u h hs⟩
   ·obtain ⟨i1,i2⟩:=ih (u/10) (by omega);exact⟨fun h=>dcml_step (u/10) (u%10) u (by omega) (by omega) (by omega) h (i1 (by omega)),fun _ h=>dcml_stepN (u/10) (u%10) u (by omega) (by omega) (by omega) h (i2 (by omega) (by omega))⟩
 by_cases hn:0<=n
 ·obtain ⟨u,rfl⟩:=Int.eq_ofNat_of_zero_le hn;exact(key u u (Nat.le_refl _)).1 (by omega)
 ·obtain ⟨u,hu⟩:=Int.eq_ofNat_of_zero_le (a:=-n) (by omega);obtain rfl:n=-(u:Int):=by omega
  exact(key u u (Nat.le_refl _)).2 (by omega) (by omega)
theorem drewN_below(w:World)(k:Nat):Below w.heap.size w (w.drewN k):=below_drewN (Below.refl _ _) k
theorem rdecimal_any(n:Int)(w:World)(h0:-9223372036854775808<=n)(h1:n<=9223372036854775807):
 Calls Tryz.prog 88 #[.int .i64 n] w fun e w'=>e= .returned (.string (st (Lib.itoa n)))/\Below w.heap.size w w':=
 (dcml_any n h0 h1 w).mono fun _ _ ⟨he,m,hm⟩=>⟨he,by rw[hm];exact drewN_below w m⟩
theorem rtext_any(neg:Bool)(D:Bs)(E:Int)(w:World)(hD:D.length<=1099511627776)(hE:-9223372036854775808<=E/\E<=9223372036854775807):
 Calls Tryz.prog 45 #[.agg #[.bool neg,.string (st D),.int .i64 E]] w fun e w'=>e= .returned (.string (st (zk9 ⟨neg,D,E⟩)))/\Below w.heap.size w w':=by
 have hdc:=fun W=>rdecimal_any E W hE.1 hE.2
 have hL:(Lib.itoa E).length<=1000:=Nat.le_trans (Lib.itoa_length_le _ (by omega) (by omega)) (by omega);generalize hR:zk9 ⟨neg,D,E⟩=R;have HR:=hq hR;clear hR;unfold zk9 at HR;have HI:=hq hdc;clear hdc;go_enter Tryz.func45,Tryz.ntmps45
 go_wp2_with fail
 refine(rright_any neg D E _ hD hE).mono ?_;rintro e w1 ⟨rfl,hb1⟩;have hb:=(za0 w (.cells #[.bool neg,.string (st D),.int .i64 E] 59)).trans (hb1.mono (by rw[World.size_alloc];omega));have hW:=(Whole.made w 59 #[.bool neg,.string (st D),.int .i64 E]).grow hb1;clear hb1;generalize Dec.right ⟨neg,D,E⟩=B at *;cases B with
 |false=>
  have HN:=hq (HR.o.symm.trans (if_neg (by simp)));clear HR;go_wp2_with fail
  go_ret
  exact⟨by rw[HN.o];rfl,hb⟩
 |true=>
  have HR2:=hq (HR.o.symm.trans (if_pos rfl));clear HR;obtain⟨c0,c1,c2⟩:=za2 hW;go_wp2_with fail
  refine(zF8 neg D E _).mono ?_;rintro e w2 ⟨rfl,hb1⟩
  replace hb:=za hb hb1
  replace hW:=hW.grow hb1
  clear hb1 c0 c1 c2;obtain⟨c0,c1,c2⟩:=za2 hW;by_cases hz:Dec.mk neg D E= .zero
  ·have HN:=hq (HR2.o.trans (if_pos hz));rw[decide_eq_true hz];clear HR2 hz;go_wp2_with fail
   go_ret
   exact⟨by rw[HN.o];rfl,hb⟩
  ·have HN:=hq (HR2.o.trans (if_neg hz));rw[decide_eq_false hz];clear HR2 hz;have hz2:(st (Lib.itoa E)).size<=1000:=by rw[za8];exact hL
   cases neg with
   |true=>
    by_cases he:E=0
    ·have he2:(E !=0)=false:=by simp[he]
     have HN2:Hq (R=45::D):=hq (by rw[HN.o];simp[he]);clear HN he HI;go_wp2_with fail
     go_ret
     exact⟨by rw[HN2.o];exact congrArg (fun x=>Ending.returned (.string x)) (zl7 [45] D),hb⟩
    ·have he2:(E !=0)=true:=bne_iff_ne.2 he;have HN2:Hq (R=((45::D)++[101])++Lib.itoa E):=hq (by rw[HN.o];simp[he]);clear HN he;go_wp2_with fail
     refine(HI.o _).mono ?_;rintro e w3 ⟨rfl,hb2⟩
     replace hb:=za hb hb2
     clear hb2;go_wp2_with fail
     go_ret
     exact⟨by rw[HN2.o];exact congrArg (fun x=>Ending.returned (.string x)) (show((st [45]++st D)++st [101])++st (Lib.itoa E)=st (((45::D)++[101])++Lib.itoa E) by rw[zl7,zl7,zl7];rfl),hb⟩
   |false=>
    by_cases he:E=0
    ·have he2:(E !=0)=false:=by simp[he]
     have HN2:Hq (R=D):=hq (by rw[HN.o];simp[he]);clear HN he HI;go_wp2_with fail
     go_ret
     exact⟨by rw[HN2.o];rfl,hb⟩
    ·have he2:(E !=0)=true:=bne_iff_ne.2 he;have HN2:Hq (R=(D++[101])++Lib.itoa E):=hq (by rw[HN.o];simp[he]);clear HN he;go_wp2_with fail
     refine(HI.o _).mono ?_;rintro e w3 ⟨rfl,hb2⟩
     replace hb:=za hb hb2
     clear hb2;go_wp2_with fail
     go_ret
     exact⟨by rw[HN2.o];exact congrArg (fun x=>Ending.returned (.string x)) (show(st D++st [101])++st (Lib.itoa E)=st ((D++[101])++Lib.itoa E) by rw[zl7,zl7]),hb⟩
def Trio(w:World)(g h k:Nat)(W:World):Prop:=
 Below w.heap.size w W/\Whole W g 59 #[.bool false,.string (st [49,50,53]),.int .i64 0]/\Whole W h 59 #[.bool false,.string (st []),.int .i64 0]/\Whole W k 59 #[.bool false,.string (st [49]),.int .i64 2]
theorem Trio.grow {w:World} {g h k:Nat} {W W':World} (t:Trio w g h k W)(hb:Below W.heap.size W W'):Trio w g h k W':=⟨za t.1 hb,t.2.1.grow hb,t.2.2.1.grow hb,t.2.2.2.grow hb⟩
theorem Trio.drew {w:World} {g h k:Nat} {W:World} (t:Trio w g h k W):Trio w g h k W.drew:=⟨t.1.drew,t.2.1,t.2.2.1,t.2.2.2⟩
def TrioCells(g h k:Nat)(W:World):Prop:=
 W.cell? ⟨g,0,none⟩=some (.bool false)/\W.cell? ⟨g,1,none⟩=some (.string (st [49,50,53]))/\W.cell? ⟨g,2,none⟩=some (.int .i64 0)/\
 W.cell? ⟨h,0,none⟩=some (.bool false)/\W.cell? ⟨h,1,none⟩=some (.string (st []))/\W.cell? ⟨h,2,none⟩=some (.int .i64 0)/\
 W.cell? ⟨k,0,none⟩=some (.bool false)/\W.cell? ⟨k,1,none⟩=some (.string (st [49]))/\W.cell? ⟨k,2,none⟩=some (.int .i64 2)
theorem Trio.cells {w:World} {g h k:Nat} {W:World} (t:Trio w g h k W):TrioCells g h k W:=by
 obtain⟨a0,a1,a2⟩:=za2 t.2.1;obtain⟨b0,b1,b2⟩:=za2 t.2.2.1;obtain⟨c0,c1,c2⟩:=za2 t.2.2.2;exact⟨a0,a1,a2,b0,b1,b2,c0,c1,c2⟩
theorem right_digs {n:Bool} {D:Bs} {E:Int} (h:Dec.right ⟨n,D,E⟩=true):D.all za7=true:=by
 by_cases hz:Dec.mk n D E= .zero
 ·have:=congrArg Dec.digits hz;simp only[Dec.zero]at this;rw[this];rfl
 ·exact (right_dig h hz).2.1
def ErrAt(w:World):Prop:=5<w.heap.size/\ ∃te pe,w.cell? ⟨5,0,none⟩=some (.iface te pe)
theorem ErrAt.grow {w W:World} (h:ErrAt w)(hb:Below w.heap.size w W):ErrAt W:=by
 obtain⟨h1,te,pe,h2⟩:=h;exact⟨Nat.lt_of_lt_of_le h1 hb.size,te,pe,(hb.cell (p:=⟨5,0,none⟩) h1).trans h2⟩
def One(w:World)(na:Bool)(DA:Bs)(EA:Int)(W:World):Prop:=
 Below w.heap.size w W/\Whole W w.heap.size 59 #[.bool na,.string (st DA),.int .i64 EA]
theorem One.grow {w:World} {na:Bool} {DA:Bs} {EA:Int} {W W':World} (h:One w na DA EA W)(hb:Below W.heap.size W W'):One w na DA EA W':=⟨za h.1 hb,h.2.grow hb⟩
theorem One.drew {w:World} {na:Bool} {DA:Bs} {EA:Int} {W:World} (h:One w na DA EA W):One w na DA EA W.drew:=⟨h.1.drew,h.2⟩
theorem One.cells {w:World} {na:Bool} {DA:Bs} {EA:Int} {W:World} (h:One w na DA EA W):
 W.cell? ⟨w.heap.size,0,none⟩=some (.bool na)/\W.cell? ⟨w.heap.size,1,none⟩=some (.string (st DA))/\W.cell? ⟨w.heap.size,2,none⟩=some (.int .i64 EA):=za2 h.2
theorem one_made(w:World)(na:Bool)(DA:Bs)(EA:Int):One w na DA EA (w.alloc (.cells #[.bool na,.string (st DA),.int .i64 EA] 59)):=⟨za0 w _,Whole.made w _ _⟩
theorem intV_no(neg:Bool)(v:Int):(intV neg v).2=false->(intV neg v).1=0:=by
 cases neg with
 |true=>
  rw[intV_t];split
  ·intro h;cases h
  ·intro _;rfl
 |false=>
  rw[intV_f];split
  ·intro h;cases h
  ·intro _;rfl
def IntPost(r:Int×Bool)(w:World)(e:Ending)(w':World):Prop:=e= .returned (.tuple #[.int .i64 r.1,.bool r.2])/\Below w.heap.size w w'
theorem IntPost.mk {r:Int×Bool} {a:Int} {b:Bool} {w w':World} (h:r=(a,b))(hb:Below w.heap.size w w'):IntPost r w (.returned (.tuple #[.int .i64 a,.bool b])) w':=⟨by rw[h],hb⟩
def PiPost(r:Int×Bool)(w:World)(e:Ending)(w':World):Prop:=
 Below w.heap.size w w'/\((r.2=true/\e= .returned (.tuple #[.int .i64 r.1,.nilIface]))\/(r.2=false/\ ∃v N,e= .returned (.tuple #[.int .i64 v,.iface 241 (.pointer (some ⟨N,0,none⟩))])))
theorem parseInt_any(neg:Bool)(T:Bs)(w:World)(hT:T.all za7=true)(hl:T.length<=19)(h0:T≠ [])(hE:ErrAt w):
 Calls Tryz.prog 179 #[.string (st ((if neg=true then [45] else [])++T)),.int .i64 10,.int .i64 64] w (PiPost (intV neg (zc9 T)) w):=by
 have hp:=zO9 neg T hT hl h0;have hsz:(st ((if neg=true then [45] else [])++T)).size<=20:=by
  rw[za8];cases neg<;>simp<;>omega
 by_cases hc:(intV neg (zc9 T)).2=true
 ·rw[if_pos hc]at hp;refine(Tryz.strconv_ParseInt_10_at64_ok _ (by omega) _ (by rw[zc7];exact hp) w).mono ?_;rintro e w' ⟨rfl,hw⟩;refine⟨?_,.inl ⟨hc,rfl⟩⟩;rcases hw with h|⟨t,h⟩
  ·rw[h];exact Below.refl _ _
  ·rw[h];exact Lib.bytesWorld_below w _ t
 ·rw[if_neg hc]at hp;obtain⟨_,te,pe,hcell⟩:=hE;refine(Tryz.strconv_ParseInt_10_at64_range _ (by omega) (by rw[zc7];exact hp) _ w hcell (.inr ⟨te,pe,rfl⟩)).mono ?_;rintro e w' ⟨N,rfl,_,_,hb⟩;exact⟨hb,.inr ⟨by simpa using hc,_,N,rfl⟩⟩
theorem int_any(neg:Bool)(D:Bs)(E:Int)(w:World)(hD:D.length<=1099511627776)(hE:-9223372036854775808<=E/\E<=9223372036854775807)(hEr:ErrAt w):
 Calls Tryz.prog 144 #[.agg #[.bool neg,.string (st D),.int .i64 E]] w (IntPost (intM ⟨neg,D,E⟩) w):=by
 have hrr:=fun W=>zG neg D E W hD hE
 have hbd:= @zm2 neg D E;have hdg:= @right_digs neg D E;have hze:Dec.right ⟨neg,D,E⟩=true->D=[]->neg=false:=fun h h0=>by
  subst h0;cases neg with
  |false=>rfl
  |true=>
   exfalso;unfold Dec.right at h;rw[if_neg (fun h=>by have:=congrArg Dec.neg h;cases this),if_pos (.inl (by simp))]at h;cases h
 generalize hR:intM ⟨neg,D,E⟩=R;have HR:=hq hR;clear hR;unfold intM at HR;simp only at HR;generalize Dec.right ⟨neg,D,E⟩=B at *;have HRR:=hq hrr;have HBD:=hq hbd;have HDG:=hq hdg;have HZE:=hq hze;have HER:=hq hEr;clear hrr hbd hdg hze hEr;go_enter Tryz.func144,Tryz.ntmps144
 have hT:=one_made w neg D E;go_wp2_with fail
 refine(HRR.o _).mono ?_;rintro e w1 ⟨rfl,hb1⟩
 replace hT:=hT.grow hb1
 clear hb1;obtain⟨c0,c1,c2⟩:=hT.cells;cases B with
 |false=>
  have HN:=hq (HR.o.symm.trans (if_neg (fun h=>by cases h.1)));clear HR HBD HDG HZE;go_wp2_with fail
  go_ret2
  exact IntPost.mk HN.o hT.1
 |true=>
  obtain⟨hl,hE1,hE2⟩:=HBD.o (by trivial);by_cases h0:E<0
  ·have HN:=hq (HR.o.symm.trans (if_neg (fun h=>by have:=h.2.1;omega)));clear HR HBD HDG HZE;go_wp2_with fail
   go_ret2
   exact IntPost.mk HN.o hT.1
  ·by_cases h19:19<(D.length:Int)+E
   ·have HN:=hq (HR.o.symm.trans (if_neg (fun h=>by have:=h.2.2;omega)));clear HR HBD HDG HZE;go_wp2_with fail
    go_ret2
    exact IntPost.mk HN.o hT.1
   ·have HN:=hq (HR.o.symm.trans (if_pos ⟨rfl,by omega,by omega⟩));clear HR HBD;obtain⟨k,rfl⟩:=Int.eq_ofNat_of_zero_le (a:=E) (by omega);have HN2:Hq (R=intV neg (zc9 (D++List.replicate k 48))):=hq HN.o;have HA:Hq ((D++List.replicate k 48).all za7=true):=hq (by rw[List.all_append,HDG.o (by trivial),zO4];rfl);have hTl:(D++List.replicate k 48).length<=19:=by rw[List.length_append,List.length_replicate];omega
    have hZ:Hq (D++List.replicate k 48=[]->neg=false):=hq (fun h=>HZE.o (by trivial) (List.append_eq_nil_iff.1 h).1);have hrep: ∀W,Calls Tryz.prog 178 #[.string ⟨#[48]⟩,.int .i64 (k:Nat)] W fun e w'=>e= .returned (.string (st (List.replicate k 48)))/\Below W.heap.size W w':=fun W=>by
     have h:=Tryz.strings_Repeat ⟨#[48]⟩ k W (by omega) (by show 1*k<=_;omega);rw[show (⟨#[48]⟩:ByteArray).data.toList=[48] from rfl,zO5]at h;exact h
    have hcat:st D++st (List.replicate k 48)=st (D++List.replicate k 48):=zl7 _ _;have hrl:(st (List.replicate k 48)).size<=19:=by rw[za8,List.length_replicate];omega
    have hrl2:(List.replicate k (48:UInt8)).length<=19:=by rw[List.length_replicate];omega
    have hdl2:(st D).size<=1000:=by rw[za8];exact hl
    have hsum:D.length+(List.replicate k (48:UInt8)).length<=9223372036854775807:=by rw[List.length_replicate];omega
    have hsum9:(st D).size+(st (List.replicate k (48:UInt8))).size<=9223372036854775807:=by rw[za8,za8];exact hsum
    have hsum3: ¬9223372036854775807<D.length+(List.replicate k (48:UInt8)).length:=by omega
    generalize D++List.replicate k 48=T at *;generalize List.replicate k 48=Z at *;have HREP:=hq hrep;have HCAT:=hq hcat;clear hrep hcat HN HDG HZE;go_upto_region 3 with fail
    go_cut [4] (fun s wx=>s= .string (st T)/\One w neg D (k:Int) wx)
    case first=>
     have hTd:=hT.drew
     go_region_with (go_at_call 178;refine(HREP.o _).mono ?_;rintro e v ⟨rfl,hb2⟩;have hT2:One w neg D (k:Int) v:=One.grow (by assumption) hb2;obtain⟨x0,x1,x2⟩:=hT2.cells)
     all_goals go_wp2_with fail
     all_goals go_meet
     all_goals exact⟨by rw[←HCAT.o],hT2⟩
    case rest=>
     clear hT c0 c1 c2;obtain⟨rfl,hT⟩:=hcut;obtain⟨c0,c1,c2⟩:=hT.cells;have hTl2:(T.length:Int)<=19:=by omega
     by_cases h0:T=[]
     ·obtain rfl:=hZ.o h0;subst h0;have HN:Hq (R=(0,true)):=hq HN2.o;clear HN2;go_wp2_with fail
      go_ret2
      exact IntPost.mk HN.o hT.1
     ·have hem:T.isEmpty=false:=by cases T with|nil=>exact absurd rfl h0|cons _ _=>rfl
      have hpi:=fun W (h:ErrAt W)=>parseInt_any neg T W HA.o hTl h0 h
      have HPI:=hq hpi;clear hpi;have HER2:=hq ((HER.o).grow hT.1);have HZ0:Hq ((intV neg (zc9 T)).2=false->(intV neg (zc9 T)).1=0):=hq (intV_no _ _);generalize intV neg (zc9 T)=r at *;obtain⟨rv,ro⟩:=r;have HE2:Hq (st ((if neg=true then [45] else [])++T)=if neg=true then st [45]++st T else st T):=hq (by
       cases neg with
       |true=>rw[if_pos rfl,if_pos rfl,zl7]
       |false=>rw[if_neg (by simp),if_neg (by simp)];rfl)
      go_upto_if 31 with fail
      go_cut [4] (fun s wx=>s= .string (st ((if neg=true then [45] else [])++T))/\wx=wc)
      case first=>
       cases neg with
       |true=>
        go_wp2_with fail
        go_meet
        exact⟨congrArg Value.string HE2.o.symm,rfl⟩
       |false=>
        go_wp2_with fail
        go_meet
        exact⟨congrArg Value.string HE2.o.symm,rfl⟩
      case rest=>
       obtain⟨rfl,rfl⟩:=hcut;have hem2:((if neg=true then [45] else [])++T).isEmpty=false:=by
        cases T with
        |nil=>exact absurd rfl h0
        |cons _ _=>cases neg<;>rfl
       clear HE2 HA hZ;have hb:=hT.1;clear hT c0 c1 c2;generalize (if neg=true then [45] else [])++T=U at *;go_wp2_with fail
       refine(HPI.o _ HER2.o).mono ?_;rintro e w3 ⟨hb3,hh⟩;have hb':=za hb hb3;clear hb3 hb HPI HER2 HER;rcases hh with ⟨h1,rfl⟩|⟨h1,v,N,rfl⟩
       ·simp only at h1;subst h1;have HN:Hq (R=(rv,true)):=hq HN2.o;clear HN2;go_wp2_with fail
        go_ret2
        exact IntPost.mk HN.o hb'
       ·simp only at h1;subst h1;have HN:Hq (R=(0,false)):=hq (by rw[HN2.o];exact congrArg (·,false) (HZ0.o rfl));clear HN2 HZ0;go_wp2_with fail
        go_ret2
        exact IntPost.mk HN.o hb'
end Go.Proofs.YtkafjblfjdpdaaaGreatDoor
