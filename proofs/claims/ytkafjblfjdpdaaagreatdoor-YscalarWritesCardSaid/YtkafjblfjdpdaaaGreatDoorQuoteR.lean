/-
  WALKS: the document's Quote.
-/
import Derived.Test.YtkafjblfjdpdaaaGreatDoorVlBC
import Derived.Test.YtkafjblfjdpdaaaGreatDoorQuoteW
import Derived.Test.YtkafjblfjdpdaaaGreatDoorRowU8
import Derived.Laws.OwnMore
import Derived.Lib.AppendStr
import Derived.Deep.RegionLaw
import Derived.Laws.IdiomStrings
import Derived.Lib.SmallJoins
import Derived.BigRegion
import Derived.Deep.LoopGhost
namespace Go.Proofs.YtkafjblfjdpdaaaGreatDoor
open Go.RowKit
theorem qb_of(n:Nat)(hn:n<256):(UInt8.ofNat n).toNat=n:=UInt8.toNat_ofNat_of_lt' hn
theorem qb_a(n:Nat)(h:n=34∨n=92):qb (UInt8.ofNat n)=[92,UInt8.ofNat n]:=by
 rcases h with rfl|rfl<;>rfl
theorem qb_c(n:Nat)(h:n<32)(h8:n≠8)(h12:n≠12)(h10:n≠10)(h13:n≠13)(h9:n≠9):qb (UInt8.ofNat n)=[92,117,48,48,hexd (n/16),hexd (n%16)]:=by
 have key: ∀n:Nat,n<32→(n=8∨n=12∨n=10∨n=13∨n=9)∨qb (UInt8.ofNat n)=[92,117,48,48,hexd (n/16),hexd (n%16)]:=by decide+kernel
 rcases key n h with hh|hh
 ·omega
 ·exact hh
theorem hexd_at(k:Nat)(h:k<16)(hz:k<(⟨#[48,49,50,51,52,53,54,55,56,57,97,98,99,100,101,102]⟩:ByteArray).size):((⟨#[48,49,50,51,52,53,54,55,56,57,97,98,99,100,101,102]⟩:ByteArray)[k]'hz)=hexd k:=by
 match k,h with
 |0,_=>rfl
 |1,_=>rfl
 |2,_=>rfl
 |3,_=>rfl
 |4,_=>rfl
 |5,_=>rfl
 |6,_=>rfl
 |7,_=>rfl
 |8,_=>rfl
 |9,_=>rfl
 |10,_=>rfl
 |11,_=>rfl
 |12,_=>rfl
 |13,_=>rfl
 |14,_=>rfl
 |15,_=>rfl
 |n+16,h=>omega
theorem qb_d(n:Nat)(h:32≤n)(hn:n<256)(h34:n≠34)(h92:n≠92):qb (UInt8.ofNat n)=[UInt8.ofNat n]:=by
 have key: ∀n:Nat,n<256→32≤n→n≠34→n≠92→qb (UInt8.ofNat n)=[UInt8.ofNat n]:=by decide+kernel
 exact key n hn h h34 h92
theorem step_own {ops:Array Oper} {o:Oper} {a:Act} {w:World} {K:Act→World→Prop} {Q:Exit→Act→World→Prop} {E:Prop} (hg:o.guard=none)(s x:Operand)(t:TypeId)
 (ho:o.op= .call {callee:= .builtin .append,args:= #[s,x],argTypes:= #[t,t]})
 (base:Nat) (e:TypeId) (i:TypeInfo) (z:Value) (size bytes:Nat) (ht:Tryz.prog.underlying t=some (.slice e)) (hi:Tryz.prog.info? e=some i) (hz:i.zero=some z)
 (hsize:i.size=size) (hby:i.bytes=bytes) (hzs:z.cells.size=size) (hsz:0<size)
 (v:Value) (n:Nat) (xs:List Value) (hs:a.eval s=v) (hown:w.ownsRow base e size v n xs)
 (ad:Addr) (m c:Nat) (news:List Value) (hx:a.eval x= .slice (some ad) m c) (hl:news.length=m*size) (hnews: ∀j u,news[j]?=some u→w.cell? (ad.add j)=some u) (h1: ∀u∈news,u.oneCell'=true)
 (h63:n+m≤maxLen) (hbytes:(n+m)*bytes≤140737488355328) (hbase:base≤w.heap.size)
 (h: ∀v' w',w'.ownsRow base e size v' (n+m) (xs++news)→w.grownBy w' v.ownBlock→(v'= .slice none 0 0↔v= .slice none 0 0∧m=0)→K (a.put o.dst v') w'):
 if Region.wanted o (yielded ops a.tmps)=true then Oper.wp Tryz.prog o a w K Q else E:=by
 rw[if_pos (by simp[Region.wanted,hg])]
 exact wp_append_own w s x t ho base e i z size bytes ht hi hz hsize hby hzs hsz v n xs hs hown ad m c news hx hl hnews h1 h63 hbytes hbase h
theorem u8_in(n:Nat)(h:n<256):IntKind.u8.wrap (n:Int)=(n:Int):=by
 unfold IntKind.wrap
 simp[IntKind.bits,IntKind.signed]
 omega
theorem quote_step(s:ByteArray)(k:Nat)(h:k<s.size):quoteB (s.data.toList.take (k+1))=quoteB (s.data.toList.take k)++qb (UInt8.ofNat (byt s k)):=by
 have hl:k<s.data.toList.length:=by rw[Array.length_toList];exact h
 rw[List.take_succ_eq_append_getElem hl,quoteB_app]
 congr 1
 have e:s.data.toList[k]=UInt8.ofNat (byt s k):=by
  apply UInt8.toNat_inj.1
  rw[UInt8.toNat_ofNat_of_lt' (show byt s k<256 from byt_lt s k),byt_eq s k h]
  rfl
 rw[e]
 show qb _++[]=_
 rw[List.append_nil]
set_option maxHeartbeats 4000000 in
set_option maxRecDepth 1000000 in
theorem rquote_any(s:ByteArray)(w:World)(hs:s.size≤1099511627776):
 Calls Tryz.prog 98 #[.string s] w fun e w'=>e= .returned (.tuple #[.string (st (quoteM s).1),.int .i64 (quoteM s).2])∧Below w.heap.size w w':=by
 obtain⟨i0,hi,hz0,hz1,hz2⟩:=info_parts infoU8
 have hv:=rvalid_any s w (by unfold maxLen;omega)
 have hm: ∀b,(valid s).2=b→quoteM s=if b=true then(34::quoteB s.data.toList++[34],0) else([],2):=fun b hb=>by unfold quoteM;rw[hb]
 generalize quoteM s=Q at *
 generalize valid s=V at *
 obtain⟨vp,vo⟩:=V
 have HM:=hq hm
 have HV:=hq hv
 clear hm hv
 go_enter Tryz.func98,Tryz.ntmps98
 go_wp2_with fail
 refine HV.o.mono ?_
 rintro e w1 ⟨rfl,rfl⟩
 cases vo with
 |false=>
  have HN:=hq (HM.o false rfl)
  clear HM HV
  go_wp2_with fail
  go_ret2
  exact⟨by rw[HN.o];rfl,Below.refl _ _⟩
 |true=>
  have HN:Hq (Q=(34::quoteB s.data.toList++[34],0)):=hq (HM.o true rfl)
  clear HM HV
  go_wp2_with fail
  go_loopg [7,8] s.size (fun g v i wr=> ∃k:Nat,i= .int .i64 k∧k+g=s.size∧Hq (RowIs wr w.heap.size v (34::quoteB (s.data.toList.take k)))∧Below w.heap.size w wr)
  case atStart=>
   refine⟨0,rfl,by omega,hq ?_,(Below.refl _ _).alloc (Nat.le_refl _) _⟩
   exact World.ownsRow_lit w #[.int .u8 34] 1 (Nat.le_refl _) (by unfold maxLen;omega) rfl
  case round=>
   obtain⟨k,rfl,hk,hrow,hb⟩:=hrel
   by_cases hlt:k<s.size
   ·have hlen:=quoteB_len (s.data.toList.take k)
    have hlk:(s.data.toList.take k).length≤k:=List.length_take_le _ _
    have hy:((s[k]'hlt).toNat:Int)=(byt s k:Int):=by rw[byt_eq s k hlt]
    have hx:=byt_lt s k
    have HST:=hq (quote_step s k hlt)
    generalize byt s k=x at *
    generalize hB:34::quoteB (s.data.toList.take k)=L at *
    have HL:Hq (34::quoteB (s.data.toList.take (k+1))=L++qb (UInt8.ofNat x)):=hq (by rw[HST.o,←hB];rfl)
    have hLl:L.length≤6*k+1:=by rw[←hB,List.length_cons];omega
    clear HST hB hlen hlk
    have hsz:=hb.size
    have hr1: ∀m,m≤6→L.length+m≤maxLen:=fun m hm=>by unfold maxLen;omega
    have hr2: ∀m,m≤6→(L.length+m)*1≤140737488355328:=fun m hm=>by omega
    have HR1:=hq hr1
    have HR2:=hq hr2
    have HR3:Hq (∀m,m≤6→L.length+m≤140737488355328):=hq (fun m hm=>by omega)
    have HOT:=hq (row_other hrow.o)
    clear hr1 hr2
    by_cases hA:x=34∨x=92
    ·have e34:((x:Int)==34)=true∨(((x:Int)==34)=false∧((x:Int)==92)=true):=by
      rcases hA with h|h
      ·left;rw[h];rfl
      ·right;rw[h];exact⟨rfl,rfl⟩
     have HQB:=hq (qb_a x hA)
     clear hA
     rcases e34 with e34|⟨e34,e92⟩
     all_goals
      go_wp2_with (at_builtin;refine wpList_append_own _ rfl _ _ 96 rfl w.heap.size 5 i0 (.int .u8 0) 1 1 Tryz.underlying96 hi hz0 hz1 hz2 rfl (by decide) _ _ _ rfl (hrow.o.alloc _) ⟨wr.heap.size,0,none⟩ 2 2 [.int .u8 92,.int .u8 (x:Int)] rfl rfl (cells_new _ [.int .u8 92,.int .u8 (x:Int)] _) (u8_one ⟨[92,(x:Int)],rfl⟩) (HR1.o 2 (by omega)) (HR2.o 2 (by omega)) (by rw[World.size_alloc];omega) ?_)
      intro v' w2 hown' hgrow _
      have hrow2:RowIs w2 w.heap.size v' (34::quoteB (s.data.toList.take (k+1))):=rel_app hown' HL.o (by rw[HQB.o];rfl) (by rw[HQB.o];simp only[Lib.byteCells,List.map_cons,List.map_nil,qb_of x hx];rfl)
      have hb2:Below w.heap.size w w2:=(hb.alloc hsz _).grown hgrow (by rw[World.size_alloc];omega) HOT.o
      have HROW:=hq hrow2
      clear hown' hgrow hrow2
      go_wp2_with fail
      go_roundg (gk-1)
      case rel=>exact⟨k+1,rfl,by omega,HROW,hb2⟩
      case measure=>omega
    ·have e34:((x:Int)==34)=false:=beq_eq_false_iff_ne.2 (by omega)
     have e92:((x:Int)==92)=false:=beq_eq_false_iff_ne.2 (by omega)
     by_cases h8:x=8
     ·have HQB:Hq (qb (UInt8.ofNat x)=[92,98]):=hq (by rw[h8];rfl)
      have e8:((x:Int)==8)=true:=by rw[h8];rfl
      clear hA h8
      go_wp2_with (at_builtin;refine Lib.wpList_append_own_string _ rfl _ _ 96 9 rfl w.heap.size 5 i0 Tryz.underlying96 Tryz.underlying9 hi hz0 hz1 hz2 _ _ _ rfl hrow.o ⟨#[92,98]⟩ rfl (HR1.o 2 (by omega)) (HR3.o 2 (by omega)) hsz ?_)
      intro v' w2 hown' hgrow _
      have hrow2:RowIs w2 w.heap.size v' (34::quoteB (s.data.toList.take (k+1))):=rel_app hown' HL.o (by rw[HQB.o];rfl) (by rw[HQB.o];rfl)
      have hb2:Below w.heap.size w w2:=hb.grown hgrow hsz HOT.o
      have HROW:=hq hrow2
      clear hown' hgrow hrow2
      go_wp2_with fail
      go_roundg (gk-1)
      case rel=>exact⟨k+1,rfl,by omega,HROW,hb2⟩
      case measure=>omega
     have e8:((x:Int)==8)=false:=beq_eq_false_iff_ne.2 (by omega)
     by_cases h12:x=12
     ·have HQB:Hq (qb (UInt8.ofNat x)=[92,102]):=hq (by rw[h12];rfl)
      have e12:((x:Int)==12)=true:=by rw[h12];rfl
      clear hA h12
      go_wp2_with (at_builtin;refine Lib.wpList_append_own_string _ rfl _ _ 96 9 rfl w.heap.size 5 i0 Tryz.underlying96 Tryz.underlying9 hi hz0 hz1 hz2 _ _ _ rfl hrow.o ⟨#[92,102]⟩ rfl (HR1.o 2 (by omega)) (HR3.o 2 (by omega)) hsz ?_)
      intro v' w2 hown' hgrow _
      have hrow2:RowIs w2 w.heap.size v' (34::quoteB (s.data.toList.take (k+1))):=rel_app hown' HL.o (by rw[HQB.o];rfl) (by rw[HQB.o];rfl)
      have hb2:Below w.heap.size w w2:=hb.grown hgrow hsz HOT.o
      have HROW:=hq hrow2
      clear hown' hgrow hrow2
      go_wp2_with fail
      go_roundg (gk-1)
      case rel=>exact⟨k+1,rfl,by omega,HROW,hb2⟩
      case measure=>omega
     have e12:((x:Int)==12)=false:=beq_eq_false_iff_ne.2 (by omega)
     by_cases h10:x=10
     ·have HQB:Hq (qb (UInt8.ofNat x)=[92,110]):=hq (by rw[h10];rfl)
      have e10:((x:Int)==10)=true:=by rw[h10];rfl
      clear hA h10
      go_wp2_with (at_builtin;refine Lib.wpList_append_own_string _ rfl _ _ 96 9 rfl w.heap.size 5 i0 Tryz.underlying96 Tryz.underlying9 hi hz0 hz1 hz2 _ _ _ rfl hrow.o ⟨#[92,110]⟩ rfl (HR1.o 2 (by omega)) (HR3.o 2 (by omega)) hsz ?_)
      intro v' w2 hown' hgrow _
      have hrow2:RowIs w2 w.heap.size v' (34::quoteB (s.data.toList.take (k+1))):=rel_app hown' HL.o (by rw[HQB.o];rfl) (by rw[HQB.o];rfl)
      have hb2:Below w.heap.size w w2:=hb.grown hgrow hsz HOT.o
      have HROW:=hq hrow2
      clear hown' hgrow hrow2
      go_wp2_with fail
      go_roundg (gk-1)
      case rel=>exact⟨k+1,rfl,by omega,HROW,hb2⟩
      case measure=>omega
     have e10:((x:Int)==10)=false:=beq_eq_false_iff_ne.2 (by omega)
     by_cases h13:x=13
     ·have HQB:Hq (qb (UInt8.ofNat x)=[92,114]):=hq (by rw[h13];rfl)
      have e13:((x:Int)==13)=true:=by rw[h13];rfl
      clear hA h13
      go_wp2_with (at_builtin;refine Lib.wpList_append_own_string _ rfl _ _ 96 9 rfl w.heap.size 5 i0 Tryz.underlying96 Tryz.underlying9 hi hz0 hz1 hz2 _ _ _ rfl hrow.o ⟨#[92,114]⟩ rfl (HR1.o 2 (by omega)) (HR3.o 2 (by omega)) hsz ?_)
      intro v' w2 hown' hgrow _
      have hrow2:RowIs w2 w.heap.size v' (34::quoteB (s.data.toList.take (k+1))):=rel_app hown' HL.o (by rw[HQB.o];rfl) (by rw[HQB.o];rfl)
      have hb2:Below w.heap.size w w2:=hb.grown hgrow hsz HOT.o
      have HROW:=hq hrow2
      clear hown' hgrow hrow2
      go_wp2_with fail
      go_roundg (gk-1)
      case rel=>exact⟨k+1,rfl,by omega,HROW,hb2⟩
      case measure=>omega
     have e13:((x:Int)==13)=false:=beq_eq_false_iff_ne.2 (by omega)
     by_cases h9:x=9
     ·have HQB:Hq (qb (UInt8.ofNat x)=[92,116]):=hq (by rw[h9];rfl)
      have e9:((x:Int)==9)=true:=by rw[h9];rfl
      clear hA h9
      go_wp2_with (at_builtin;refine Lib.wpList_append_own_string _ rfl _ _ 96 9 rfl w.heap.size 5 i0 Tryz.underlying96 Tryz.underlying9 hi hz0 hz1 hz2 _ _ _ rfl hrow.o ⟨#[92,116]⟩ rfl (HR1.o 2 (by omega)) (HR3.o 2 (by omega)) hsz ?_)
      intro v' w2 hown' hgrow _
      have hrow2:RowIs w2 w.heap.size v' (34::quoteB (s.data.toList.take (k+1))):=rel_app hown' HL.o (by rw[HQB.o];rfl) (by rw[HQB.o];rfl)
      have hb2:Below w.heap.size w w2:=hb.grown hgrow hsz HOT.o
      have HROW:=hq hrow2
      clear hown' hgrow hrow2
      go_wp2_with fail
      go_roundg (gk-1)
      case rel=>exact⟨k+1,rfl,by omega,HROW,hb2⟩
      case measure=>omega
     have e9:((x:Int)==9)=false:=beq_eq_false_iff_ne.2 (by omega)
     by_cases h32:x<32
     ·have HQB:=hq (qb_c x h32 h8 h12 h10 h13 h9)
      have HQ2:Hq (Lib.byteCells (qb (UInt8.ofNat x))=[.int .u8 92,.int .u8 117,.int .u8 48,.int .u8 48,.int .u8 ((hexd (x/16)).toNat:Int),.int .u8 ((hexd (x%16)).toNat:Int)]):=hq (by rw[HQB.o];rfl)
      have HQ3:Hq ((qb (UInt8.ofNat x)).length=6):=hq (by rw[HQB.o];rfl)
      have e1:IntKind.u8.wrap ((x:Int)/16)=((x/16:Nat):Int):=by
       rw[show (x:Int)/16=((x/16:Nat):Int) by omega]
       exact u8_in (x/16) (by omega)
      have e4:(x:Int).tmod 16=((x%16:Nat):Int):=by
       rw[Int.tmod_eq_emod_of_nonneg (by omega)];omega
      have d3:x/16<16:=by omega
      have d4:x%16<16:=by omega
      generalize x/16=q at *
      generalize x%16=r at *
      have z1:q<(⟨#[48,49,50,51,52,53,54,55,56,57,97,98,99,100,101,102]⟩:ByteArray).size:=d3
      have z2:r<(⟨#[48,49,50,51,52,53,54,55,56,57,97,98,99,100,101,102]⟩:ByteArray).size:=d4
      have i1:((⟨#[48,49,50,51,52,53,54,55,56,57,97,98,99,100,101,102]⟩:ByteArray)[q]'z1).toNat=(hexd q).toNat:=by rw[hexd_at q d3 z1]
      have i2:((⟨#[48,49,50,51,52,53,54,55,56,57,97,98,99,100,101,102]⟩:ByteArray)[r]'z2).toNat=(hexd r).toNat:=by rw[hexd_at r d4 z2]
      have g1:(q:Int)<16:=by omega
      have g2:(r:Int)<16:=by omega
      have HSZ6:Hq (∀o:Obj,w.heap.size≤(wr.alloc o).drew.heap.size):=hq (fun o=>Nat.le_trans hsz (by show wr.heap.size≤(wr.alloc o).heap.size;rw[World.size_alloc];omega))
      have HDR:Hq (∀o:Obj,Below w.heap.size w (wr.alloc o).drew):=hq (fun o=>(hb.alloc hsz o).drew)
      generalize hexd q=A at *
      generalize hexd r=B at *
      clear hA h8 h12 h10 h13 h9 HQB
      go_upto_region 23 with fail
      go_region_law (refine step_own rfl (.tmp 59) (.tmp 68) 96 rfl w.heap.size 5 i0 (.int .u8 0) 1 1 Tryz.underlying96 hi hz0 hz1 hz2 rfl (by decide) _ _ _ (by simp[Act.eval]) (hrow.o.alloc (.cells #[.int .u8 92,.int .u8 117,.int .u8 48,.int .u8 48,.int .u8 (A.toNat:Int),.int .u8 (B.toNat:Int)] 5)) ⟨wr.heap.size,0,none⟩ 6 6 [.int .u8 92,.int .u8 117,.int .u8 48,.int .u8 48,.int .u8 (A.toNat:Int),.int .u8 (B.toNat:Int)] (by simp[Act.eval]) rfl (cells_new wr [.int .u8 92,.int .u8 117,.int .u8 48,.int .u8 48,.int .u8 (A.toNat:Int),.int .u8 (B.toNat:Int)] _) (u8_one ⟨[92,117,48,48,(A.toNat:Int),(B.toNat:Int)],rfl⟩) (HR1.o 6 (by omega)) (HR2.o 6 (by omega)) (HSZ6.o _) ?_;intro v' w2 hown' hgrow _;have HROW:=hq (rel_app hown' HL.o HQ3.o HQ2.o);have HB2:=hq (Below.grown (HDR.o _) hgrow (HSZ6.o _) HOT.o);clear hown' hgrow)
      all_goals
       go_wp2_with fail
       go_roundg (gk-1)
       case rel=>exact⟨k+1,rfl,by omega,HROW,HB2.o⟩
       case measure=>omega
     ·have HQB:=hq (qb_d x (by omega) hx (by omega) (by omega))
      clear hA h8 h12 h10 h13 h9
      go_wp2_with (at_builtin;refine wpList_append_own _ rfl _ _ 96 rfl w.heap.size 5 i0 (.int .u8 0) 1 1 Tryz.underlying96 hi hz0 hz1 hz2 rfl (by decide) _ _ _ rfl (hrow.o.alloc _) ⟨wr.heap.size,0,none⟩ 1 1 [.int .u8 (x:Int)] rfl rfl (cells_new _ [.int .u8 (x:Int)] _) (u8_one ⟨[(x:Int)],rfl⟩) (HR1.o 1 (by omega)) (HR2.o 1 (by omega)) (by rw[World.size_alloc];omega) ?_)
      intro v' w2 hown' hgrow _
      have hrow2:RowIs w2 w.heap.size v' (34::quoteB (s.data.toList.take (k+1))):=rel_app hown' HL.o (by rw[HQB.o];rfl) (by rw[HQB.o];simp only[Lib.byteCells,List.map_cons,List.map_nil,qb_of x hx])
      have hb2:Below w.heap.size w w2:=(hb.alloc hsz _).grown hgrow (by rw[World.size_alloc];omega) HOT.o
      have HROW:=hq hrow2
      clear hown' hgrow hrow2
      go_wp2_with fail
      go_roundg (gk-1)
      case rel=>exact⟨k+1,rfl,by omega,HROW,hb2⟩
      case measure=>omega
   ·obtain rfl:k=s.size:=by omega
    have htk:s.data.toList.take s.size=s.data.toList:=List.take_of_length_le (by rw[Array.length_toList];exact Nat.le_refl _)
    have hlen:=quoteB_len s.data.toList
    have hls:s.data.toList.length=s.size:=Array.length_toList
    have HTK:=hq htk
    clear htk
    have hrow2:=hrow.o
    rw[HTK.o]at hrow2
    have HRW:=hq hrow2
    have hLl:(34::quoteB s.data.toList).length≤6*s.size+1:=by rw[List.length_cons];omega
    have HQ:Hq (Q=((34::quoteB s.data.toList)++[34],0)):=hq HN.o
    have HOT:=hq (row_other hrow2)
    clear hrow hrow2 HN HTK hlen hls
    generalize 34::quoteB s.data.toList=L at *
    have hsz:=hb.size
    have HR1:Hq (L.length+1≤maxLen):=hq (by unfold maxLen;omega)
    have HR2:Hq ((L.length+1)*1≤140737488355328):=hq (by omega)
    go_wp2_with (at_builtin;refine wpList_append_own _ rfl _ _ 96 rfl w.heap.size 5 i0 (.int .u8 0) 1 1 Tryz.underlying96 hi hz0 hz1 hz2 rfl (by decide) _ _ _ rfl (HRW.o.alloc _) ⟨wr.heap.size,0,none⟩ 1 1 [.int .u8 34] rfl rfl (cells_new _ [.int .u8 34] _) (u8_one ⟨[34],rfl⟩) HR1.o HR2.o (by rw[World.size_alloc];omega) ?_)
    intro v' w2 hown' hgrow _
    have hrow3:RowIs w2 w.heap.size v' (L++[34]):=rel_app hown' rfl rfl rfl
    have hb2:Below w.heap.size w w2:=(hb.alloc hsz _).grown hgrow (by rw[World.size_alloc];omega) HOT.o
    have hcv:=bytes_back hrow3 (by rw[List.length_append];simp)
    clear hown' hgrow hrow3
    go_wp2_with fail
    go_ret2
    exact⟨by rw[HQ.o];rfl,hb2⟩
end Go.Proofs.YtkafjblfjdpdaaaGreatDoor
