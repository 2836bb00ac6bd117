/-
  WALK: the document's own answer of layer 11: Resolve.
  WALKS: the document's own answers of layer 10: wrong, Single.
-/
import Derived.Test.YtkafjblfjdpdaaaGreatDoorYsN
set_option maxHeartbeats 16000000
set_option maxRecDepth 1000000
namespace Go.Proofs.YtkafjblfjdpdaaaGreatDoor
open Go.RowKit
theorem zC(s:ByteArray)(W:World)(hs:s.size<=1099511627776):
 Calls Tryz.prog 18 #[.string s] W (zJ7 (zc3 s.data.toList) W):=by
 have hst:st s.data.toList=s:=zo7 (by simp);have hsl:s.data.toList.length<=1099511627776:=by rw[Array.length_toList];exact hs
 have HPA:=hq (fun V=>(show Calls Tryz.prog 44 #[.string s] V (PPost (zb3 s.data.toList) V) from by have h:=zA1 s.data.toList V hsl;rwa [hst]at h));have HTX:Hq (∀d:Dec,d.right=true-> ∀V,Below W.heap.size W V->Calls Tryz.prog 45 #[.agg #[.bool d.neg,.string (st d.digits),.int .i64 d.exp]] V fun e w'=>e= .returned (.string (st (zk9 d)))/\Below V.heap.size V w'):=hq (fun d hr V _=>by
  have hbd:= @zm2 d.neg d.digits d.exp hr;exact rtext_any d.neg d.digits d.exp V (by omega) (by omega))
 have HOF:Hq (∀V,Calls Tryz.prog 36 #[.string s] V fun e W'=>e= .returned (.agg #[.int .i64 4,.string s,.slice none 0 0,.slice none 0 0])/\Below V.heap.size V W'):=hq (fun V=>by
  have h:=rOf_any s.data.toList V;rw[hst]at h;exact h.mono fun e W' h=>⟨by rw[h.1,zo5,hst],h.2⟩)
 have HRC:=hq (zn2 s.data.toList);have HP:Hq (∀W',Below W.heap.size W W'->zJ7 (zc3 s.data.toList) W (.returned (.agg #[.int .i64 (zc3 s.data.toList).k,.string (st (zc3 s.data.toList).t),.slice none 0 0,.slice none 0 0])) W'):=hq (fun W' h=>⟨rfl,h⟩);generalize zJ7 (zc3 s.data.toList) W=PP at *;have E0:=zj5 s [];have E1:=zj5 s [110,117,108,108];have E2:=zj5 s [126];have E3:=zj5 s [116,114,117,101];have E4:=zj5 s [102,97,108,115,101];have HB0:=hq (za0 W (.cells #[.int .i64 0,.string ⟨#[]⟩,.slice none 0 0,.slice none 0 0] 26));have HW0:=hq (Whole.made W 26 #[.int .i64 0,.string ⟨#[]⟩,.slice none 0 0,.slice none 0 0]);clear hsl;unfold PPost at HPA;go_enter Tryz.func18,Tryz.ntmps18
 go_upto_region 1 with fail
 obtain⟨g,HG⟩: ∃g,Hq (g=W.heap.size):=⟨_,hq rfl⟩;rw[←HG.o]at HW0 ⊢;generalize (W.alloc (.cells #[.int .i64 0,.string ⟨#[]⟩,.slice none 0 0,.slice none 0 0] 26))=V0 at *;have HPUT:=hq (fun V (h:Below W.heap.size W V) a b c d=>zg5 h (show W.heap.size<=g by rw[HG.o];exact Nat.le_refl _) a b c d);obtain⟨z0,z1,z2,z3⟩:=za1 HW0.o;have f0:=HW0.o.free 0;have f1:=HW0.o.free 1;have f2:=HW0.o.free 2;have f3:=HW0.o.free 3;have nul: ∀(_:zc3 s.data.toList= .mk 1 [] [] []),Hq (PP (.returned (.agg #[.int .i64 1,.string ⟨#[]⟩,.slice none 0 0,.slice none 0 0])) ((((V0.setCell ⟨g,0,none⟩ (.int .i64 1)).setCell ⟨g,1,none⟩ (.string ⟨#[]⟩)).setCell ⟨g,2,none⟩ (.slice none 0 0)).setCell ⟨g,3,none⟩ (.slice none 0 0))):=fun h=>hq (by
  have:=HP.o _ (HPUT.o _ HB0.o (.int .i64 1) (.string ⟨#[]⟩) (.slice none 0 0) (.slice none 0 0));rw[h]at this;exact this)
 have two: ∀(_:zc3 s.data.toList= .mk 2 s.data.toList [] []),Hq (PP (.returned (.agg #[.int .i64 2,.string s,.slice none 0 0,.slice none 0 0])) ((((V0.setCell ⟨g,0,none⟩ (.int .i64 2)).setCell ⟨g,1,none⟩ (.string s)).setCell ⟨g,2,none⟩ (.slice none 0 0)).setCell ⟨g,3,none⟩ (.slice none 0 0))):=fun h=>hq (by
  have:=HP.o _ (HPUT.o _ HB0.o (.int .i64 2) (.string s) (.slice none 0 0) (.slice none 0 0));rw[h]at this;simp only[Vl.k,Vl.t,hst]at this;exact this)
 rcases HRC.o with ⟨hc,hr⟩|⟨n0,n1,n2,hc,hr⟩|⟨n0,n1,n2,n3,n4,hc⟩
 ·have HV:=nul hr;clear HP HTX HPA HOF HRC two nul hr hst;by_cases c0:s.data.toList=[]
  ·rw[decide_eq_true c0]at E0;clear c0 hc E1 E2 E3 E4;go_wp2_with fail
   refine bodyPost_ret (v:= .agg #[.int .i64 1,.string ⟨#[]⟩,.slice none 0 0,.slice none 0 0]) ?_ rfl HV.o;simp[results,Tryz.results18,go_sem,z0,z1,z2,z3]
  ·rw[decide_eq_false c0]at E0;by_cases c1:s.data.toList=[110,117,108,108]
   ·rw[decide_eq_true c1]at E1;clear c0 c1 hc E2 E3 E4;go_wp2_with fail
    refine bodyPost_ret (v:= .agg #[.int .i64 1,.string ⟨#[]⟩,.slice none 0 0,.slice none 0 0]) ?_ rfl HV.o;simp[results,Tryz.results18,go_sem,z0,z1,z2,z3]
   ·rw[decide_eq_false c1]at E1;rw[decide_eq_true ((hc.resolve_left c0).resolve_left c1)]at E2;clear c0 c1 hc E3 E4;go_wp2_with fail
    refine bodyPost_ret (v:= .agg #[.int .i64 1,.string ⟨#[]⟩,.slice none 0 0,.slice none 0 0]) ?_ rfl HV.o;simp[results,Tryz.results18,go_sem,z0,z1,z2,z3]
 ·have HV:=two hr;clear HP HTX HPA HOF HRC two nul hr hst;rw[decide_eq_false n0]at E0;rw[decide_eq_false n1]at E1;rw[decide_eq_false n2]at E2;clear n0 n1 n2;by_cases c3:s.data.toList=[116,114,117,101]
  ·rw[decide_eq_true c3]at E3;clear c3 hc E4;go_wp2_with fail
   refine bodyPost_ret (v:= .agg #[.int .i64 2,.string s,.slice none 0 0,.slice none 0 0]) ?_ rfl HV.o;simp[results,Tryz.results18,go_sem,z0,z1,z2,z3]
  ·rw[decide_eq_false c3]at E3;rw[decide_eq_true (hc.resolve_left c3)]at E4;clear c3 hc;go_wp2_with fail
   refine bodyPost_ret (v:= .agg #[.int .i64 2,.string s,.slice none 0 0,.slice none 0 0]) ?_ rfl HV.o;simp[results,Tryz.results18,go_sem,z0,z1,z2,z3]
 ·rw[decide_eq_false n0]at E0;rw[decide_eq_false n1]at E1;rw[decide_eq_false n2]at E2;rw[decide_eq_false n3]at E3;rw[decide_eq_false n4]at E4;clear n0 n1 n2 n3 n4 two nul HRC;rcases hc with ⟨h1,hr⟩|⟨h1,hr⟩
  ·have hpr:=zg7 (l:=s.data.toList) (m:=(zb3 s.data.toList).1) (by rw[←h1]);have HTD:=hq (HTX.o _ hpr);rw[hr]at HP;generalize zb3 s.data.toList=R at *;obtain⟨⟨neg,D,E⟩,er⟩:=R;simp only at h1;subst h1;simp only[Vl.k,Vl.t]at HP;generalize hTM:zk9 ⟨neg,D,E⟩=TM at *;have hTM':=hq hTM;clear HTX hpr hTM HOF hr hst;go_wp2_with fail
   refine(HPA.o _).mono ?_;rintro e w2 ⟨rfl,hb2⟩;have HB2:=hq (za HB0.o hb2);have HW2:=hq (HW0.o.grow hb2);clear HPA hb2 z0 z1 z2 z3 f0 f1 f2 f3;simp only[Dec.val];go_upto_region 10 with fail
   have HB3:=hq (za HB2.o (za0 w2 (.cells #[.bool neg,.string (st D),.int .i64 E] 59)));have HW3:=hq (HW2.o.grow (za0 w2 (.cells #[.bool neg,.string (st D),.int .i64 E] 59)));obtain⟨n0,n1,n2⟩:=za2 (Whole.made w2 59 #[.bool neg,.string (st D),.int .i64 E]);generalize w2.alloc (.cells #[.bool neg,.string (st D),.int .i64 E] 59)=W3 at *;generalize w2.heap.size=gn at *;go_wp2_with fail
   refine(HTD.o W3 HB3.o).mono ?_;rintro e w4 ⟨rfl,hb4⟩;have HB4:=hq (za HB3.o hb4);have hw4:=HW3.o.grow hb4;obtain⟨z0,z1,z2,z3⟩:=za1 hw4;have f0:=hw4.free 0;have f1:=hw4.free 1;have f2:=hw4.free 2;have f3:=hw4.free 3;have HV:=hq (HP.o _ (HPUT.o _ HB4.o (.int .i64 3) (.string (st TM)) (.slice none 0 0) (.slice none 0 0)));clear HP HTD hb4 hw4;go_wp2_with fail
   refine bodyPost_ret (v:= .agg #[.int .i64 3,.string (st TM),.slice none 0 0,.slice none 0 0]) ?_ rfl HV.o;simp[results,Tryz.results18,go_sem,z0,z1,z2,z3]
  ·rw[hr]at HP;simp only[Vl.k,Vl.t,hst]at HP;clear HTX hr hst;generalize zb3 s.data.toList=R at *;obtain⟨⟨neg,D,E⟩,er⟩:=R;have e1:(er==0)=false:=beq_eq_false_iff_ne.2 h1;clear h1;go_wp2_with fail
   refine(HPA.o _).mono ?_;rintro e w2 ⟨rfl,hb2⟩;have HB2:=hq (za HB0.o hb2);have HW2:=hq (HW0.o.grow hb2);clear HPA hb2 z0 z1 z2 z3 f0 f1 f2 f3;simp only[Dec.val];go_upto_region 10 with fail
   have HB3:=hq (za HB2.o (za0 w2 (.cells #[.bool neg,.string (st D),.int .i64 E] 59)));have HW3:=hq (HW2.o.grow (za0 w2 (.cells #[.bool neg,.string (st D),.int .i64 E] 59)));generalize w2.alloc (.cells #[.bool neg,.string (st D),.int .i64 E] 59)=W3 at *;generalize w2.heap.size=gn at *;go_wp2_with fail
   refine(HOF.o W3).mono ?_;rintro e w4 ⟨rfl,hb4⟩;have HB4:=hq (za HB3.o hb4);have hw4:=HW3.o.grow hb4;obtain⟨z0,z1,z2,z3⟩:=za1 hw4;have f0:=hw4.free 0;have f1:=hw4.free 1;have f2:=hw4.free 2;have f3:=hw4.free 3;have HV:=hq (HP.o _ (HPUT.o _ HB4.o (.int .i64 4) (.string s) (.slice none 0 0) (.slice none 0 0)));clear HP HOF hb4 hw4;go_wp2_with fail
   refine bodyPost_ret (v:= .agg #[.int .i64 4,.string s,.slice none 0 0,.slice none 0 0]) ?_ rfl HV.o;simp[results,Tryz.results18,go_sem,z0,z1,z2,z3]
theorem st_sz(l:Bs):(st l).size=l.length:=by show l.toArray.size=_;simp
theorem rune_ext(s:ByteArray)(q:Nat)(h:q<s.size):s.extract q (q+wd s q)=st (zd2 s q):=by
 have hw:=zp8 s q h;refine zo7 (Array.ext' ?_);rw[ByteArray.data_extract,Array.toList_extract,List.extract_eq_take_drop];unfold zd2 st;simp
theorem rsingle_any(s:ByteArray)(a:Int)(w:World)(hs:s.size<=1099511627776)(ha:-9223372036854775808<=a/\a<=9223372036854775807):
 Calls Tryz.prog 34 #[.string s,.int .i64 a] w fun e w'=>e= .returned (.tuple #[.string (st (sglM s a).1),.int .i64 ((sglM s a).2.1:Int),.int .i64 (sglM s a).2.2])/\w=w':=by
 obtain⟨ha1,ha2⟩:=ha;have HS:Hq (sglM s a=if a<0\/(s.size:Int)<a then([],0,2) else if a.toNat=s.size\/byt s a.toNat≠39 then([],a.toNat,2) else zk5 s s.size (a.toNat+1) []):=hq rfl;generalize sglM s a=V at *;by_cases h0:a<0
 ·have HN:=hq (HS.o.trans (if_pos (.inl h0)));clear HS;go_enter Tryz.func34,Tryz.ntmps34
  go_wp2_with fail
  go_ret3
  exact⟨by rw[HN.o];rfl,rfl⟩
 ·by_cases h1:(s.size:Int)<a
  ·have HN:=hq (HS.o.trans (if_pos (.inr h1)));clear HS;go_enter Tryz.func34,Tryz.ntmps34
   go_wp2_with fail
   go_ret3
   exact⟨by rw[HN.o];rfl,rfl⟩
  ·obtain ⟨k,rfl⟩:=Int.eq_ofNat_of_zero_le (Int.not_lt.1 h0);have HS2:=hq (HS.o.trans (if_neg (fun h=>h.elim h0 h1)));simp only[Int.toNat_natCast]at HS2;have h0': ¬(k:Int)<0:=h0;have h1': ¬(s.size:Int)<(k:Int):=h1;clear HS h0 h1 ha1 ha2;by_cases hk:k=s.size
   ·have HN:=hq (HS2.o.trans (if_pos (.inl hk)));have e1:((k:Int)==(s.size:Int))=true:=zc0 hk;clear HS2 hk;go_enter Tryz.func34,Tryz.ntmps34
    go_wp2_with fail
    go_ret3
    exact⟨by rw[HN.o];rfl,rfl⟩
   ·have e1:((k:Int)==(s.size:Int))=false:=zb hk;have hks:k<s.size:=by omega
    have y0:((s[k]'hks).toNat:Int)=(byt s k:Int):=by rw[zb6 s k hks]
    by_cases h39:byt s k≠39
    ·have HN:=hq (HS2.o.trans (if_pos (.inr h39)));have e2:((byt s k:Int) !=39)=true:=bne_iff_ne.2 (by omega);clear HS2 hk h39;generalize byt s k=c0 at *;go_enter Tryz.func34,Tryz.ntmps34
     go_wp2_with fail
     go_ret3
     exact⟨by rw[HN.o];rfl,rfl⟩
    ·have HN:=hq (HS2.o.trans (if_neg (fun h=>h.elim hk h39)));have e2:((byt s k:Int) !=39)=false:=by rw[show byt s k=39 by omega];rfl
     clear HS2 hk h39;generalize byt s k=c0 at *;go_enter Tryz.func34,Tryz.ntmps34
     go_wp2_with fail
     clear y0
     go_loop [7,8] (fun o i=> ∃(q f:Nat) (acc:Bs),q<=s.size/\o= .string (st acc)/\i= .int .i64 (q:Int)/\Hq (V=zk5 s f q acc)/\s.size<=q+f/\acc.length<=q) (fun _ i=>s.size-(intOf i).toNat)
     case atStart=>exact⟨k+1,s.size,[],by omega,rfl,zb5 (by omega),HN,by omega,by simp⟩
     case round=>
      obtain⟨q,f,acc,hq1,rfl,rfl,hv,hf,hal⟩:=hrel;clear HN;have hsz:=st_sz acc;have hz1:(st acc).size+(⟨#[39]⟩:ByteArray).size<=4398046511104:=by rw[hsz];show _+1<=_;omega
      have HSZ:=hq hsz;clear hsz;by_cases h:q<s.size
      ·obtain ⟨f,rfl⟩: ∃g,f=g+1:=⟨f-1,by omega⟩;have y0:((s[q]'h).toNat:Int)=(byt s q:Int):=by rw[zb6 s q h]
       by_cases h39:byt s q=39
       ·have e3:((byt s q:Int)==39)=true:=zc0 h39;by_cases hl:q+1<s.size
        ·have y1:((s[q+1]'hl).toNat:Int)=(byt s (q+1):Int):=by rw[zb6 s (q+1) hl]
         have hl': ¬(s.size:Int)<=(q:Int)+1:=by omega
         by_cases h2:byt s (q+1)=39
         ·have HN2:Hq (V=zk5 s f (q+2) (acc++[39])):=hq (hv.o.trans (zE8 h h39 hl h2));have e4:((byt s (q+1):Int) !=39)=false:=by rw[h2];rfl
          have HCA:Hq (st acc++⟨#[39]⟩=st (acc++[39])):=hq (zq9 acc [39]);clear hv h39 h2;generalize byt s q=c0 at *;generalize byt s (q+1)=c1 at *;go_wp2_with fail
          go_round
          case rel=>exact⟨q+2,f,acc++[39],by omega,congrArg Value.string HCA.o,zb5 (by omega),HN2,by omega,by simp;omega⟩
          case measure=>simp[intOf];omega
         ·have HN2:Hq (V=(acc,q+1,0)):=hq (hv.o.trans (zD4 h h39 (fun hh=>h2 hh.2)));have e4:((byt s (q+1):Int) !=39)=true:=bne_iff_ne.2 (by omega);clear hv h39 h2;generalize byt s q=c0 at *;generalize byt s (q+1)=c1 at *;go_wp2_with fail
          go_ret3
          exact⟨by rw[HN2.o];rfl,rfl⟩
        ·have HN2:Hq (V=(acc,q+1,0)):=hq (hv.o.trans (zD4 h h39 (fun hh=>hl hh.1)));have hl':(s.size:Int)<=(q:Int)+1:=by omega
         clear hv h39 hl;generalize byt s q=c0 at *;go_wp2_with fail
         go_ret3
         exact⟨by rw[HN2.o];rfl,rfl⟩
       ·have e3:((byt s q:Int)==39)=false:=zb h39;have HG:=hq (fun W=>zG0 s q W (by unfold maxLen;omega) h);have HX:=hq (fun W=>zy0 s q W (by unfold maxLen;omega) (by omega));rw[nxt_in s q h]at HX;have hwp:=zi4 s q;have hwl:=zp8 s q h;have HW:Hq (((Utf8.decode s q).2:Int)=(wd s q:Int)):=hq rfl;rw[HW.o]at HX;by_cases hb:bad s q
        ·have HN2:Hq (V=([],q,2)):=hq (hv.o.trans (zs7 h h39 (.inl hb)));rw[decide_eq_false (fun hh=>hh hb)]at HG;clear hv hb HX HW h39;generalize byt s q=c0 at *;go_wp2_with fail
         refine(HG.o _).mono ?_;rintro e w' ⟨rfl,rfl⟩;clear HG;go_wp2_with fail
         go_ret3
         exact⟨by rw[HN2.o];rfl,rfl⟩
        ·rw[decide_eq_true hb]at HG;by_cases h32:byt s q<32
         ·have HN2:Hq (V=([],q,2)):=hq (hv.o.trans (zs7 h h39 (.inr h32)));have e4:(byt s q:Int)<32:=by omega
          clear hv hb HX HW h39 h32;generalize byt s q=c0 at *;go_wp2_with fail
          refine(HG.o _).mono ?_;rintro e w' ⟨rfl,rfl⟩;clear HG;go_wp2_with fail
          go_ret3
          exact⟨by rw[HN2.o];rfl,rfl⟩
         ·have HN2:Hq (V=zk5 s f (q+wd s q) (acc++zd2 s q)):=hq (hv.o.trans (zu1 h h39 (fun hh=>hh.elim hb h32)));have e4: ¬(byt s q:Int)<32:=by omega
          have hre:=rune_ext s q h;have HCA:Hq (st acc++s.extract q (q+wd s q)=st (acc++zd2 s q)):=hq (by rw[hre,zq9]);have hez:(s.extract q (q+wd s q)).size=wd s q:=by rw[ByteArray.size_extract];omega
          have hz2:(st acc).size+(s.extract q (q+wd s q)).size<=4398046511104:=by rw[hez,HSZ.o];have:=wd_le4 s q;omega
          have HLA:Hq ((acc++zd2 s q).length<=q+wd s q):=hq (by rw[List.length_append,zi9 s q h];omega);generalize acc++zd2 s q=acc2 at *;clear hv hb HW h39 h32 hre hez;generalize byt s q=c0 at *;generalize wd s q=K at *;go_wp2_with fail
          refine(HG.o _).mono ?_;rintro e w' ⟨rfl,rfl⟩;clear HG;go_wp2_with fail
          refine(HX.o _).mono ?_;rintro e w' ⟨rfl,rfl⟩;clear HX;go_wp2_with fail
          go_round
          case rel=>exact⟨q+K,f,acc2,hwl,congrArg Value.string HCA.o,zb5 (by omega),HN2,by omega,HLA.o⟩
          case measure=>simp[intOf];omega
      ·have HN2:Hq (V=([],s.size,2)):=hq (hv.o.trans (zx9 h));have h': ¬(q:Int)<(s.size:Int):=by omega
       clear hv h;go_wp2_with fail
       go_ret3
       exact⟨by rw[HN2.o];rfl,rfl⟩
end Go.Proofs.YtkafjblfjdpdaaaGreatDoor
