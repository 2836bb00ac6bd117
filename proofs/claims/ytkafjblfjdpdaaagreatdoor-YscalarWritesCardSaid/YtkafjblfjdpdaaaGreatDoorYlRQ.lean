/-
  WALKS: the document's own answers of layer 10: wrong, Single.
  WALKS: the document's own Quoted (layer 10).
-/
import Derived.Test.YtkafjblfjdpdaaaGreatDoorYlS
import Derived.Test.YtkafjblfjdpdaaaGreatDoorQuoteW
import Derived.Test.YtkafjblfjdpdaaaGreatDoorYsM
import Derived.Test.YtkafjblfjdpdaaaGreatDoorRowU8
namespace Go.Proofs.YtkafjblfjdpdaaaGreatDoor
open Go.RowKit
set_option maxHeartbeats 1000000 in
set_option maxRecDepth 1000000 in
theorem rwrong_any(s:ByteArray)(del:Bool)(w:World)(hs:s.size≤1099511627776):
 Calls Tryz.prog 141 #[.string s,.bool del] w fun e w'=>e= .returned (.int .i64 (cleanM s del:Int))∧w=w':=by
 have HV:Hq (cleanM s del=clnM s del s.size 0):=hq rfl
 generalize cleanM s del=V at *
 cases del
 all_goals
  go_enter Tryz.func141,Tryz.ntmps141
  go_wp2_with fail
 ·go_loop [5] (fun v=> ∃q f:Nat,q≤s.size∧v= .int .i64 (q:Int)∧Hq (V=clnM s false f q)∧s.size≤q+f) (fun v=>s.size-(intOf v).toNat)
  case atStart=>exact⟨0,s.size,Nat.zero_le _,rfl,HV,by omega⟩
  case round=>
   obtain⟨q,f,hq1,rfl,hv,hf⟩:=hrel
   clear HV
   by_cases h:q<s.size
   ·obtain ⟨f,rfl⟩: ∃g,f=g+1:=⟨f-1,by omega⟩
    have y0:((s[q]'h).toNat:Int)=(byt s q:Int):=by rw[byt_eq s q h]
    have HG:=hq (fun W=>rgood_any s q W (by unfold maxLen;omega) h)
    have HX:=hq (fun W=>rnext_any s q W (by unfold maxLen;omega) (by omega))
    rw[nxt_in s q h]at HX
    have hwp:=wd_pos s q
    have hwl:=wd_le s q h
    have HW:Hq (((Utf8.decode s q).2:Int)=(wd s q:Int)):=hq rfl
    rw[HW.o]at HX
    by_cases hb:bad s q
    ·have HN:Hq (V=q):=hq (by rw[hv.o,clnM_bad s false f q h (by unfold badC;rw[decide_eq_true hb];rfl)])
     rw[decide_eq_false (fun hh=>hh hb)]at HG
     clear hv hb HX HW
     generalize byt s q=c0 at *
     go_wp2_with fail
     refine(HG.o _).mono ?_
     rintro e w' ⟨rfl,rfl⟩
     clear HG
     go_wp2_with fail
     go_ret
     exact⟨by rw[HN.o];rfl,rfl⟩
    ·rw[decide_eq_true hb]at HG
     by_cases h32:byt s q<32
     ·have HN:Hq (V=q):=hq (by rw[hv.o,clnM_bad s false f q h (by unfold badC;rw[decide_eq_true h32];simp)])
      have e1:(byt s q:Int)<32:=by omega
      clear hv hb HX HW h32
      generalize byt s q=c0 at *
      go_wp2_with fail
      refine(HG.o _).mono ?_
      rintro e w' ⟨rfl,rfl⟩
      clear HG
      go_wp2_with fail
      go_ret
      exact⟨by rw[HN.o];rfl,rfl⟩
     ·have HN:Hq (V=clnM s false f (q+wd s q)):=hq (by rw[hv.o,clnM_step s false f q h (by unfold badC;rw[decide_eq_false h32,decide_eq_false hb];rfl)])
      have e1: ¬(byt s q:Int)<32:=by omega
      clear hv hb HW h32
      generalize byt s q=c0 at *
      generalize wd s q=K at *
      go_wp2_with fail
      refine(HG.o _).mono ?_
      rintro e w' ⟨rfl,rfl⟩
      clear HG
      go_wp2_with fail
      refine(HX.o _).mono ?_
      rintro e w' ⟨rfl,rfl⟩
      clear HX
      go_wp2_with fail
      go_round
      case rel=>exact⟨q+K,f,hwl,int_eq (by omega),HN,by omega⟩
      case measure=>simp[intOf];omega
   ·have HN:Hq (V=q):=hq (by rw[hv.o,clnM_end s false f q h];omega)
    have h': ¬(q:Int)<(s.size:Int):=by omega
    clear hv h
    go_wp2_with fail
    go_ret
    exact⟨by rw[HN.o];rfl,rfl⟩
 ·go_loop [5] (fun v=> ∃q f:Nat,q≤s.size∧v= .int .i64 (q:Int)∧Hq (V=clnM s true f q)∧s.size≤q+f) (fun v=>s.size-(intOf v).toNat)
  case atStart=>exact⟨0,s.size,Nat.zero_le _,rfl,HV,by omega⟩
  case round=>
   obtain⟨q,f,hq1,rfl,hv,hf⟩:=hrel
   clear HV
   by_cases h:q<s.size
   ·obtain ⟨f,rfl⟩: ∃g,f=g+1:=⟨f-1,by omega⟩
    have y0:((s[q]'h).toNat:Int)=(byt s q:Int):=by rw[byt_eq s q h]
    have HG:=hq (fun W=>rgood_any s q W (by unfold maxLen;omega) h)
    have HX:=hq (fun W=>rnext_any s q W (by unfold maxLen;omega) (by omega))
    rw[nxt_in s q h]at HX
    have hwp:=wd_pos s q
    have hwl:=wd_le s q h
    have HW:Hq (((Utf8.decode s q).2:Int)=(wd s q:Int)):=hq rfl
    rw[HW.o]at HX
    by_cases hb:bad s q
    ·have HN:Hq (V=q):=hq (by rw[hv.o,clnM_bad s true f q h (by unfold badC;rw[decide_eq_true hb];rfl)])
     rw[decide_eq_false (fun hh=>hh hb)]at HG
     clear hv hb HX HW
     generalize byt s q=c0 at *
     go_wp2_with fail
     refine(HG.o _).mono ?_
     rintro e w' ⟨rfl,rfl⟩
     clear HG
     go_wp2_with fail
     go_ret
     exact⟨by rw[HN.o];rfl,rfl⟩
    ·rw[decide_eq_true hb]at HG
     by_cases h32:byt s q<32
     ·have HN:Hq (V=q):=hq (by rw[hv.o,clnM_bad s true f q h (by unfold badC;rw[decide_eq_true h32];simp)])
      have e1:(byt s q:Int)<32:=by omega
      clear hv hb HX HW h32
      generalize byt s q=c0 at *
      go_wp2_with fail
      refine(HG.o _).mono ?_
      rintro e w' ⟨rfl,rfl⟩
      clear HG
      go_wp2_with fail
      go_ret
      exact⟨by rw[HN.o];rfl,rfl⟩
     ·have e1: ¬(byt s q:Int)<32:=by omega
      by_cases h127:byt s q=127
      ·have HN:Hq (V=q):=hq (by rw[hv.o,clnM_bad s true f q h (by unfold badC;rw[h127];simp)])
       have e2:((byt s q:Int)==127)=true:=beq_int_true h127
       clear hv hb HX HW h32 h127
       generalize byt s q=c0 at *
       go_wp2_with fail
       refine(HG.o _).mono ?_
       rintro e w' ⟨rfl,rfl⟩
       clear HG
       go_wp2_with fail
       go_ret
       exact⟨by rw[HN.o];rfl,rfl⟩
      ·have HN:Hq (V=clnM s true f (q+wd s q)):=hq (by rw[hv.o,clnM_step s true f q h (by unfold badC;rw[decide_eq_false h32,decide_eq_false hb,beq_eq_false_iff_ne.2 h127];rfl)])
       have e2:((byt s q:Int)==127)=false:=beq_int_false h127
       clear hv hb HW h32 h127
       generalize byt s q=c0 at *
       generalize wd s q=K at *
       go_wp2_with fail
       refine(HG.o _).mono ?_
       rintro e w' ⟨rfl,rfl⟩
       clear HG
       go_wp2_with fail
       refine(HX.o _).mono ?_
       rintro e w' ⟨rfl,rfl⟩
       clear HX
       go_wp2_with fail
       go_round
       case rel=>exact⟨q+K,f,hwl,int_eq (by omega),HN,by omega⟩
       case measure=>simp[intOf];omega
   ·have HN:Hq (V=q):=hq (by rw[hv.o,clnM_end s true f q h];omega)
    have h': ¬(q:Int)<(s.size:Int):=by omega
    clear hv h
    go_wp2_with fail
    go_ret
    exact⟨by rw[HN.o];rfl,rfl⟩
end Go.Proofs.YtkafjblfjdpdaaaGreatDoor
namespace Go.Proofs.YtkafjblfjdpdaaaGreatDoor
open Go.RowKit
theorem dblB_step(s:ByteArray)(k:Nat)(h:k<s.size):dblB (s.data.toList.take (k+1))=dblB (s.data.toList.take k)++(if byt s k=39 then [39,39] else [UInt8.ofNat (byt s k)]):=by
 have hl:k<s.data.toList.length:=by rw[Array.length_toList];exact h
 have e:s.data.toList[k]=UInt8.ofNat (byt s k):=by
  apply UInt8.toNat_inj.1
  rw[UInt8.toNat_ofNat_of_lt' (show byt s k<256 from byt_lt s k),byt_eq s k h]
  rfl
 rw[List.take_succ_eq_append_getElem hl,e]
 have hx:=byt_lt s k
 generalize byt s k=x at *
 unfold dblB subst1
 rw[List.flatMap_append]
 congr 1
 show(if UInt8.ofNat x=39 then [39,39] else [UInt8.ofNat x])++[]=_
 rw[List.append_nil]
 by_cases h39:x=39
 ·subst h39;rfl
 ·rw[if_neg h39,if_neg (fun hh=>h39 (by have:=congrArg UInt8.toNat hh;rw[UInt8.toNat_ofNat_of_lt' (show x<256 from hx)]at this;exact this))]
theorem u8_nat(n:Nat)(hn:n<256):(UInt8.ofNat n).toNat=n:=UInt8.toNat_ofNat_of_lt' hn
set_option maxHeartbeats 4000000 in
set_option maxRecDepth 1000000 in
theorem rquoted_any(s:ByteArray)(w:World)(hs:s.size≤1099511627776):
 Calls Tryz.prog 97 #[.string s] w (QuotedPost (quotedM s) w):=by
 obtain⟨i0,hi,hz0,hz1,hz2⟩:=info_parts infoU8
 have HS:Hq (quotedM s=if cleanM s false=s.size then(39::dblB s.data.toList++[39],0) else([],2)):=hq rfl
 have HW:=hq (fun W=>rwrong_any s false W hs)
 have hcl:=clnM_le s false s.size 0
 have hcl2:cleanM s false≤s.size:=hcl
 clear hcl
 generalize quotedM s=Q at *
 generalize cleanM s false=C at *
 by_cases hc:C=s.size
 ·have HN:=hq (HS.o.trans (if_pos hc))
  have hc': ¬(C:Int)<(s.size:Int):=by omega
  have hc2:decide (C<s.size)=false:=decide_eq_false (by omega)
  clear HS hc
  go_enter Tryz.func97,Tryz.ntmps97
  go_wp2_with fail
  refine(HW.o _).mono ?_
  rintro e w' ⟨rfl,rfl⟩
  clear HW
  go_wp2_with fail
  go_loopg [4,5] s.size (fun g v i wr=> ∃k:Nat,i= .int .i64 k∧k+g=s.size∧Hq (RowIs wr w.heap.size v (39::dblB (s.data.toList.take k)))∧Below w.heap.size w wr)
  case atStart=>
   refine⟨0,rfl,by omega,hq ?_,(Below.refl _ _).alloc (Nat.le_refl _) _⟩
   exact World.ownsRow_lit w #[.int .u8 39] 1 (Nat.le_refl _) (by unfold maxLen;omega) rfl
  case round=>
   obtain⟨k,rfl,hk,hrow,hb⟩:=hrel
   have hsz:=hb.size
   by_cases hlt:k<s.size
   ·have hlen:=dblB_len (s.data.toList.take k)
    have hlk:(s.data.toList.take k).length≤k:=List.length_take_le _ _
    have hy:((s[k]'hlt).toNat:Int)=(byt s k:Int):=by rw[byt_eq s k hlt]
    have hx:=byt_lt s k
    have HST:=hq (dblB_step s k hlt)
    generalize byt s k=x at *
    generalize hB:39::dblB (s.data.toList.take k)=L at *
    have HL:Hq (39::dblB (s.data.toList.take (k+1))=L++(if x=39 then [39,39] else [UInt8.ofNat x])):=hq (by rw[HST.o,←hB];rfl)
    have hLl:L.length≤2*k+1:=by rw[←hB,List.length_cons];omega
    clear HST hB hlen hlk
    have HR1:Hq (∀m,m≤6→L.length+m≤maxLen):=hq (fun m hm=>by unfold maxLen;omega)
    have HR2:Hq (∀m,m≤6→(L.length+m)*1≤140737488355328):=hq (fun m hm=>by omega)
    have HOT:=hq (row_other hrow.o)
    by_cases h39:x=39
    ·have e1:((x:Int)==39)=true:=beq_int_true h39
     have HL2:Hq (39::dblB (s.data.toList.take (k+1))=(L++[39])++[39]):=hq (by rw[HL.o,if_pos h39];simp)
     have HX:Hq (x=39):=hq h39
     clear HL h39
     go_wp2_with (at_builtin;refine wpList_append_own _ rfl _ _ 96 rfl w.heap.size 5 i0 (.int .u8 0) 1 1 Tryz.underlying96 hi hz0 hz1 hz2 rfl (by decide) _ _ _ rfl (hrow.o.alloc _) ⟨wr.heap.size,0,none⟩ 1 1 [.int .u8 39] rfl rfl (cells_new _ [.int .u8 39] _) (u8_one ⟨[39],rfl⟩) (HR1.o 1 (by omega)) (HR2.o 1 (by omega)) (by rw[World.size_alloc];omega) ?_)
     intro v' w2 hown' hgrow _
     have hrow2:RowIs w2 w.heap.size v' (L++[39]):=rel_app hown' rfl rfl rfl
     have hb2:Below w.heap.size w w2:=(hb.alloc hsz _).grown hgrow (by rw[World.size_alloc];omega) HOT.o
     have hsz2:=hb2.size
     have HOT2:=hq (row_other hrow2)
     have hrl:(L++[39]).length=L.length+1:=by simp
     have HROW2:Hq (w2.ownsRow w.heap.size 5 1 v' (L++[39]).length (Lib.byteCells (L++[39]))):=hq hrow2
     have HR3:Hq ((L++[39]).length+1≤maxLen):=hq (by rw[hrl];exact HR1.o 2 (by omega))
     have HR4:Hq (((L++[39]).length+1)*1≤140737488355328):=hq (by rw[hrl];exact HR2.o 2 (by omega))
     clear hown' hgrow hrow2 hrl HOT hrow
     go_wp2_with (at_builtin;refine wpList_append_own _ rfl _ _ 96 rfl w.heap.size 5 i0 (.int .u8 0) 1 1 Tryz.underlying96 hi hz0 hz1 hz2 rfl (by decide) _ _ _ rfl (HROW2.o.alloc _) ⟨w2.heap.size,0,none⟩ 1 1 [.int .u8 (x:Int)] rfl rfl (cells_new _ [.int .u8 (x:Int)] _) (u8_one ⟨[(x:Int)],rfl⟩) HR3.o HR4.o (by rw[World.size_alloc];omega) ?_)
     intro v3 w3 hown3 hgrow3 _
     have hrow3:RowIs w3 w.heap.size v3 (39::dblB (s.data.toList.take (k+1))):=by
      unfold RowIs
      rw[HL2.o,byteCells_app' (L++[39]) [39],List.length_append,List.length_append]
      rw[HX.o]at hown3
      exact hown3
     have hb3:Below w.heap.size w w3:=(hb2.alloc hsz2 _).grown hgrow3 (by rw[World.size_alloc];omega) HOT2.o
     have HROW3:=hq hrow3
     clear hown3 hgrow3 hrow3
     go_wp2_with fail
     go_roundg (gk-1)
     case rel=>exact⟨k+1,rfl,by omega,HROW3,hb3⟩
     case measure=>omega
    ·have e1:((x:Int)==39)=false:=beq_int_false h39
     have HL2:Hq (39::dblB (s.data.toList.take (k+1))=L++[UInt8.ofNat x]):=hq (by rw[HL.o,if_neg h39])
     clear HL h39
     go_wp2_with (at_builtin;refine wpList_append_own _ rfl _ _ 96 rfl w.heap.size 5 i0 (.int .u8 0) 1 1 Tryz.underlying96 hi hz0 hz1 hz2 rfl (by decide) _ _ _ rfl (hrow.o.alloc _) ⟨wr.heap.size,0,none⟩ 1 1 [.int .u8 (x:Int)] rfl rfl (cells_new _ [.int .u8 (x:Int)] _) (u8_one ⟨[(x:Int)],rfl⟩) (HR1.o 1 (by omega)) (HR2.o 1 (by omega)) (by rw[World.size_alloc];omega) ?_)
     intro v' w2 hown' hgrow _
     have hrow2:RowIs w2 w.heap.size v' (39::dblB (s.data.toList.take (k+1))):=rel_app hown' HL2.o rfl (by simp only[Lib.byteCells,List.map_cons,List.map_nil,u8_nat x hx])
     have hb2:Below w.heap.size w w2:=(hb.alloc hsz _).grown hgrow (by rw[World.size_alloc];omega) HOT.o
     have HROW:=hq hrow2
     clear hown' hgrow hrow2
     go_wp2_with fail
     go_roundg (gk-1)
     case rel=>exact⟨k+1,rfl,by omega,HROW,hb2⟩
     case measure=>omega
   ·obtain rfl:k=s.size:=by omega
    have htk:s.data.toList.take s.size=s.data.toList:=List.take_of_length_le (by rw[Array.length_toList];exact Nat.le_refl _)
    have hlen:=dblB_len s.data.toList
    have hls:s.data.toList.length=s.size:=Array.length_toList
    have hrow2:=hrow.o
    rw[htk]at hrow2
    have HRW:=hq hrow2
    have hLl:(39::dblB s.data.toList).length≤2*s.size+1:=by rw[List.length_cons];omega
    have HQ:Hq (Q=((39::dblB s.data.toList)++[39],0)):=hq HN.o
    have HOT:=hq (row_other hrow2)
    clear hrow hrow2 HN htk hlen hls
    generalize 39::dblB s.data.toList=L at *
    have HR1:Hq (L.length+1≤maxLen):=hq (by unfold maxLen;omega)
    have HR2:Hq ((L.length+1)*1≤140737488355328):=hq (by omega)
    go_wp2_with (at_builtin;refine wpList_append_own _ rfl _ _ 96 rfl w.heap.size 5 i0 (.int .u8 0) 1 1 Tryz.underlying96 hi hz0 hz1 hz2 rfl (by decide) _ _ _ rfl (HRW.o.alloc _) ⟨wr.heap.size,0,none⟩ 1 1 [.int .u8 39] rfl rfl (cells_new _ [.int .u8 39] _) (u8_one ⟨[39],rfl⟩) HR1.o HR2.o (by rw[World.size_alloc];omega) ?_)
    intro v' w2 hown' hgrow _
    have hrow3:RowIs w2 w.heap.size v' (L++[39]):=rel_app hown' rfl rfl rfl
    have hb2:Below w.heap.size w w2:=(hb.alloc hsz _).grown hgrow (by rw[World.size_alloc];omega) HOT.o
    have hcv:=bytes_back hrow3 (by rw[List.length_append];simp)
    clear hown' hgrow hrow3
    go_wp2_with fail
    go_ret2
    exact⟨by rw[HQ.o];rfl,hb2⟩
 ·have HN:=hq (HS.o.trans (if_neg hc))
  have hc':(C:Int)<(s.size:Int):=by omega
  clear HS hc
  go_enter Tryz.func97,Tryz.ntmps97
  go_wp2_with fail
  refine(HW.o _).mono ?_
  rintro e w' ⟨rfl,rfl⟩
  clear HW
  go_wp2_with fail
  go_ret2
  exact⟨by rw[HN.o];rfl,Below.refl _ _⟩
end Go.Proofs.YtkafjblfjdpdaaaGreatDoor
