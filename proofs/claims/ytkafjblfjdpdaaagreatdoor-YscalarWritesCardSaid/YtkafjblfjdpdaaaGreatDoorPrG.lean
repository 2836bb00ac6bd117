/-
  WALKS: the document's own answers of layer 11: safe, quoted.
  WALKS: the document's layer 8: blanks.
-/
import Derived.Test.YtkafjblfjdpdaaaGreatDoorYsS
import Derived.Test.YtkafjblfjdpdaaaGreatDoorYlRQ
import Derived.Test.YtkafjblfjdpdaaaGreatDoorQuoteR
import Derived.Test.YtkafjblfjdpdaaaGreatDoorYsM
import Derived.Test.YtkafjblfjdpdaaaGreatDoorPrM
namespace Go.Proofs.YtkafjblfjdpdaaaGreatDoor
open Go.RowKit
def prevB(s:ByteArray)(p:Nat):UInt8:=if p=0 then 0 else UInt8.ofNat (byt s (p-1))
def safeI(s:ByteArray)(p:Nat):Bs:=safeL (prevB s p) (s.data.toList.drop p)
theorem safeI_end {s:ByteArray} {p:Nat} (h: ¬p<s.size):safeI s p=[]:=by unfold safeI;rw[drop_end s p h];rfl
theorem prevB_is {s:ByteArray} {p:Nat}:prevB s p=32↔0<p∧byt s (p-1)=32:=by
 unfold prevB
 by_cases h:p=0
 ·rw[if_pos h]
  exact⟨fun e=>absurd e (by decide),fun e=>by omega⟩
 ·rw[if_neg h,show(32:UInt8)=UInt8.ofNat 32 from rfl,ofNat_is (byt_lt s _) (by omega)]
  exact⟨fun e=>⟨by omega,e⟩,fun e=>e.2⟩
theorem safeI_step {s:ByteArray} {p:Nat} (h:p<s.size):safeI s p=(if byt s p=127 then [92,117,48,48,55,102] else if byt s p=35∧0<p∧byt s (p-1)=32 then [92,117,48,48,50,51] else [UInt8.ofNat (byt s p)])++safeI s (p+1):=by
 unfold safeI
 have e:prevB s (p+1)=UInt8.ofNat (byt s p):=by unfold prevB;rw[if_neg (by omega)];rfl
 rw[drop_at s p h,safeL,e]
 congr 1
 have l0:=byt_lt s p
 have a1:UInt8.ofNat (byt s p)=127↔byt s p=127:=ofNat_is (m:=127) l0 (by omega)
 have a2:UInt8.ofNat (byt s p)=35↔byt s p=35:=ofNat_is (m:=35) l0 (by omega)
 by_cases h1:byt s p=127
 ·rw[if_pos h1,if_pos (a1.2 h1)]
 ·rw[if_neg h1,if_neg (mt a1.1 h1)]
  by_cases h2:byt s p=35∧0<p∧byt s (p-1)=32
  ·rw[if_pos h2,if_pos ⟨a2.2 h2.1,prevB_is.2 h2.2⟩]
  ·rw[if_neg h2,if_neg (fun e=>h2 ⟨a2.1 e.1,prevB_is.1 e.2⟩)]
set_option maxHeartbeats 4000000 in
set_option maxRecDepth 1000000 in
theorem rsafe_any(s:ByteArray)(w:World)(h0:0<s.size)(hs:s.size≤1099511627776):
 Calls Tryz.prog 53 #[.string s] w fun e w'=>e= .returned (.string (st (safeL 0 s.data.toList)))∧Below w.heap.size w w':=by
 obtain⟨i0,hi,hz0,hz1,hz2⟩:=info_parts infoU8
 have HV:Hq (safeL 0 s.data.toList=[]++safeI s 0):=hq rfl
 generalize safeL 0 s.data.toList=V at *
 have HB:=hq (Below.refl w.heap.size w)
 go_enter Tryz.func53,Tryz.ntmps53
 go_wp2_with fail
 go_loopg [3,4] s.size (fun g v i wr=> ∃(k:Nat) (acc:Bs),i= .int .i64 k∧k+g=s.size∧Hq (RowIs wr w.heap.size v acc)∧Hq (Below w.heap.size w wr)∧Hq (V=acc++safeI s k)∧acc.length≤6*k∧k≤acc.length)
 case atStart=>exact⟨0,[],rfl,by omega,hq (World.ownsRow_nil _ _ _ _),HB,HV,Nat.le_refl _,Nat.le_refl _⟩
 case round=>
  obtain⟨k,acc,rfl,hk,hrow,hb,hv,hal,hka⟩:=hrel
  clear HV HB
  have hsz:=hb.o.size
  by_cases hlt:k<s.size
  ·have hy:((s[k]'hlt).toNat:Int)=(byt s k:Int):=by rw[byt_eq s k hlt]
   have hx:=byt_lt s k
   have HST:=hq (hv.o.trans (congrArg (acc++ ·) (safeI_step hlt)))
   have HR1:Hq (∀m,m≤6→acc.length+m≤maxLen):=hq (fun m hm=>by unfold maxLen;omega)
   have HR2:Hq (∀m,m≤6→(acc.length+m)*1≤140737488355328):=hq (fun m hm=>by omega)
   have HR3:Hq (∀m,m≤6→acc.length+m≤140737488355328):=hq (fun m hm=>by omega)
   have HOT:=hq (row_other hrow.o)
   have hlt':(k:Int)<(s.size:Int):=by omega
   clear hv
   by_cases h127:byt s k=127
   ·have HN:Hq (V=(acc++[92,117,48,48,55,102])++safeI s (k+1)):=hq (by rw[HST.o,if_pos h127,List.append_assoc])
    have e1:((byt s k:Int)==127)=true:=beq_int_true h127
    clear HST h127
    generalize byt s k=x at *
    go_wp2_with (at_builtin;refine Lib.wpList_append_own_string _ rfl _ _ 96 9 rfl w.heap.size 5 i0 Tryz.underlying96 Tryz.underlying9 hi hz0 hz1 hz2 _ _ _ rfl hrow.o ⟨#[92,117,48,48,55,102]⟩ rfl (HR1.o 6 (by omega)) (HR3.o 6 (by omega)) hsz ?_)
    intro v' w2 hown' hgrow _
    have hrow2:RowIs w2 w.heap.size v' (acc++[92,117,48,48,55,102]):=rel_app hown' rfl rfl rfl
    have hb2:Below w.heap.size w w2:=hb.o.grown hgrow hsz HOT.o
    have HROW:=hq hrow2
    have HB2:=hq hb2
    have HLE:Hq ((acc++[92,117,48,48,55,102]).length=acc.length+6):=hq (by simp)
    clear hown' hgrow hrow2 hb2
    go_wp2_with fail
    go_roundg (gk-1)
    case rel=>exact⟨k+1,_,rfl,by omega,HROW,HB2,HN,by rw[HLE.o];omega,by rw[HLE.o];omega⟩
    case measure=>omega
   ·have e1:((byt s k:Int)==127)=false:=beq_int_false h127
    by_cases h35:byt s k=35
    case pos=>
     have e2:((byt s k:Int)==35)=true:=beq_int_true h35
     by_cases hk0:k=0
     case pos=>
      have HN:Hq (V=(acc++[UInt8.ofNat (byt s k)])++safeI s (k+1)):=hq (by rw[HST.o,if_neg h127,if_neg (fun h=>by omega),List.append_assoc])
      subst hk0
      clear HST h127 h35
      generalize byt s 0=x at *
      go_wp2_with (at_builtin;refine wpList_append_own _ rfl _ _ 96 rfl w.heap.size 5 i0 (.int .u8 0) 1 1 Tryz.underlying96 hi hz0 hz1 hz2 rfl (by decide) _ _ _ rfl (hrow.o.alloc _) ⟨wr.heap.size,0,none⟩ 1 1 [.int .u8 (x:Int)] rfl rfl (cells_new _ [.int .u8 (x:Int)] _) (u8_one ⟨[(x:Int)],rfl⟩) (HR1.o 1 (by omega)) (HR2.o 1 (by omega)) (by rw[World.size_alloc];omega) ?_)
      intro v' w2 hown' hgrow _
      have hrow2:RowIs w2 w.heap.size v' (acc++[UInt8.ofNat x]):=rel_app hown' rfl rfl (by simp only[Lib.byteCells,List.map_cons,List.map_nil,u8_nat x hx])
      have hb2:Below w.heap.size w w2:=(hb.o.alloc hsz _).grown hgrow (by rw[World.size_alloc];omega) HOT.o
      have HROW:=hq hrow2
      have HB2:=hq hb2
      have HLE:Hq ((acc++[UInt8.ofNat x]).length=acc.length+1):=hq (by simp)
      clear hown' hgrow hrow2 hb2
      go_wp2_with fail
      go_roundg (gk-1)
      case rel=>exact⟨1,_,rfl,by omega,HROW,HB2,HN,by rw[HLE.o];omega,by rw[HLE.o];omega⟩
      case measure=>omega
     case neg=>
      have hg:(0:Int)<(k:Int):=by omega
      have em:(k:Int)-1=((k-1:Nat):Int):=by omega
      have hk1:k-1<s.size:=by omega
      have hy1:((s[k-1]'hk1).toNat:Int)=(byt s (k-1):Int):=by rw[byt_eq s _ hk1]
      by_cases h32:byt s (k-1)=32
      case pos=>
       have HN:Hq (V=(acc++[92,117,48,48,50,51])++safeI s (k+1)):=hq (by rw[HST.o,if_neg h127,if_pos ⟨h35,by omega,h32⟩,List.append_assoc])
       have e3:((byt s (k-1):Int)==32)=true:=beq_int_true h32
       clear HST h127 h35 h32
       generalize byt s k=x at *
       generalize byt s (k-1)=x1 at *
       go_wp2_with (at_builtin;refine Lib.wpList_append_own_string _ rfl _ _ 96 9 rfl w.heap.size 5 i0 Tryz.underlying96 Tryz.underlying9 hi hz0 hz1 hz2 _ _ _ rfl hrow.o ⟨#[92,117,48,48,50,51]⟩ rfl (HR1.o 6 (by omega)) (HR3.o 6 (by omega)) hsz ?_)
       intro v' w2 hown' hgrow _
       have hrow2:RowIs w2 w.heap.size v' (acc++[92,117,48,48,50,51]):=rel_app hown' rfl rfl rfl
       have hb2:Below w.heap.size w w2:=hb.o.grown hgrow hsz HOT.o
       have HROW:=hq hrow2
       have HB2:=hq hb2
       have HLE:Hq ((acc++[92,117,48,48,50,51]).length=acc.length+6):=hq (by simp)
       clear hown' hgrow hrow2 hb2
       go_wp2_with fail
       go_roundg (gk-1)
       case rel=>exact⟨k+1,_,rfl,by omega,HROW,HB2,HN,by rw[HLE.o];omega,by rw[HLE.o];omega⟩
       case measure=>omega
      case neg=>
       have HN:Hq (V=(acc++[UInt8.ofNat (byt s k)])++safeI s (k+1)):=hq (by rw[HST.o,if_neg h127,if_neg (fun h=>h32 h.2.2),List.append_assoc])
       have e3:((byt s (k-1):Int)==32)=false:=beq_int_false h32
       clear HST h127 h35 h32
       generalize byt s k=x at *
       generalize byt s (k-1)=x1 at *
       go_wp2_with (at_builtin;refine wpList_append_own _ rfl _ _ 96 rfl w.heap.size 5 i0 (.int .u8 0) 1 1 Tryz.underlying96 hi hz0 hz1 hz2 rfl (by decide) _ _ _ rfl (hrow.o.alloc _) ⟨wr.heap.size,0,none⟩ 1 1 [.int .u8 (x:Int)] rfl rfl (cells_new _ [.int .u8 (x:Int)] _) (u8_one ⟨[(x:Int)],rfl⟩) (HR1.o 1 (by omega)) (HR2.o 1 (by omega)) (by rw[World.size_alloc];omega) ?_)
       intro v' w2 hown' hgrow _
       have hrow2:RowIs w2 w.heap.size v' (acc++[UInt8.ofNat x]):=rel_app hown' rfl rfl (by simp only[Lib.byteCells,List.map_cons,List.map_nil,u8_nat x hx])
       have hb2:Below w.heap.size w w2:=(hb.o.alloc hsz _).grown hgrow (by rw[World.size_alloc];omega) HOT.o
       have HROW:=hq hrow2
       have HB2:=hq hb2
       have HLE:Hq ((acc++[UInt8.ofNat x]).length=acc.length+1):=hq (by simp)
       clear hown' hgrow hrow2 hb2
       go_wp2_with fail
       go_roundg (gk-1)
       case rel=>exact⟨k+1,_,rfl,by omega,HROW,HB2,HN,by rw[HLE.o];omega,by rw[HLE.o];omega⟩
       case measure=>omega
    case neg=>
     have HN:Hq (V=(acc++[UInt8.ofNat (byt s k)])++safeI s (k+1)):=hq (by rw[HST.o,if_neg h127,if_neg (fun h=>h35 h.1),List.append_assoc])
     have e2:((byt s k:Int)==35)=false:=beq_int_false h35
     clear HST h127 h35
     generalize byt s k=x at *
     go_wp2_with (at_builtin;refine wpList_append_own _ rfl _ _ 96 rfl w.heap.size 5 i0 (.int .u8 0) 1 1 Tryz.underlying96 hi hz0 hz1 hz2 rfl (by decide) _ _ _ rfl (hrow.o.alloc _) ⟨wr.heap.size,0,none⟩ 1 1 [.int .u8 (x:Int)] rfl rfl (cells_new _ [.int .u8 (x:Int)] _) (u8_one ⟨[(x:Int)],rfl⟩) (HR1.o 1 (by omega)) (HR2.o 1 (by omega)) (by rw[World.size_alloc];omega) ?_)
     intro v' w2 hown' hgrow _
     have hrow2:RowIs w2 w.heap.size v' (acc++[UInt8.ofNat x]):=rel_app hown' rfl rfl (by simp only[Lib.byteCells,List.map_cons,List.map_nil,u8_nat x hx])
     have hb2:Below w.heap.size w w2:=(hb.o.alloc hsz _).grown hgrow (by rw[World.size_alloc];omega) HOT.o
     have HROW:=hq hrow2
     have HB2:=hq hb2
     have HLE:Hq ((acc++[UInt8.ofNat x]).length=acc.length+1):=hq (by simp)
     clear hown' hgrow hrow2 hb2
     go_wp2_with fail
     go_roundg (gk-1)
     case rel=>exact⟨k+1,_,rfl,by omega,HROW,HB2,HN,by rw[HLE.o];omega,by rw[HLE.o];omega⟩
     case measure=>omega
  ·obtain rfl:k=s.size:=by omega
   have HN:Hq (V=acc):=hq (by rw[hv.o,safeI_end hlt,List.append_nil])
   have hcv:=bytes_back hrow.o (by omega)
   have hlt': ¬(s.size:Int)<(s.size:Int):=by omega
   clear hv hrow
   go_wp2_with fail
   go_ret
   exact⟨by rw[HN.o];rfl,hb.o⟩
def rquotL(s:ByteArray):Bs×Int:=if (valid s).2=true∧plainL s.data.toList=true then quotedM s else(safeL 0 (quoteM s).1,(quoteM s).2)
theorem rquot_is {s:ByteArray} (h:(valid s).2=true):rquotL s=(inQ s.data.toList (quoteM s).1,0):=by
 have hst:st s.data.toList=s:=ba_ext (by simp)
 unfold rquotL inQ
 rw[hst]
 by_cases hp:plainL s.data.toList=true
 ·rw[if_pos ⟨h,hp⟩,if_pos hp]
  have:=quoted_plain (t:=s.data.toList) (by rw[hst];exact h) hp
  rw[hst]at this
  rw[this]
 ·rw[if_neg (fun h=>hp h.2),if_neg hp,quoteM_yes h]
set_option maxHeartbeats 4000000 in
set_option maxRecDepth 1000000 in
theorem rquoted11_any(s:ByteArray)(w:World)(hv:(valid s).2=true)(hs:s.size≤1073741824):
 Calls Tryz.prog 54 #[.string s] w (QuotedPost (inQ s.data.toList (quoteM s).1,0) w):=by
 have HCL:=hq (fun W=>rclean_any s W (by omega))
 have HQU:=hq (fun W=>rquote_any s W (by omega))
 have HQD:=hq (fun W=>rquoted_any s W (by omega))
 have hqm:=quoteM_yes hv
 have hq0:0<(st (quoteM s).1).size:=by rw[hqm,st_size];simp
 have hql:=quote_len s
 have HSF:=hq (fun W=>rsafe_any (st (quoteM s).1) W hq0 (by rw[st_size];omega))
 have HRE:Hq ((if plainL s.data.toList=true then quotedM s else(safeL 0 (quoteM s).1,(quoteM s).2))=(inQ s.data.toList (quoteM s).1,0)):=hq (by
  have:=rquot_is hv
  unfold rquotL at this
  simp only[hv,true_and]at this
  exact this)
 rw[hv,Bool.true_and]at HCL
 rw[st_list]at HSF
 generalize inQ s.data.toList (quoteM s).1=IQ at *
 generalize plainL s.data.toList=PL at *
 generalize quotedM s=QD at *
 generalize quoteM s=QU at *
 obtain⟨qb,qe⟩:=QU
 obtain⟨db,de⟩:=QD
 simp only at HRE HSF HQU
 unfold QuotedPost at HQD ⊢
 simp only at HQD ⊢
 have HFI:Hq (∀b (er:Int) W',(b,er)=(IQ,(0:Int))→Below w.heap.size w W'→(fun (e:Ending) (w':World)=>e= .returned (.tuple #[.string (st IQ),.int .i64 0])∧Below w.heap.size w w') (.returned (.tuple #[.string (st b),.int .i64 er])) W'):=hq (fun b er W' h1 h2=>by injection h1 with h3 h4;exact⟨by rw[h3,h4],h2⟩)
 generalize (fun (e:Ending) (w':World)=>e= .returned (.tuple #[.string (st IQ),.int .i64 0])∧Below w.heap.size w w')=PP at *
 clear hqm hq0 hql hv
 go_enter Tryz.func54,Tryz.ntmps54
 go_wp2_with fail
 refine(HCL.o _).mono ?_
 rintro e w1 ⟨rfl,hb⟩
 have HB1:=hq hb
 clear HCL hb
 cases PL with
 |true=>
  have HE:Hq ((db,de)=(IQ,(0:Int))):=hq HRE.o
  clear HRE HSF HQU
  go_wp2_with fail
  refine(HQD.o _).mono ?_
  rintro e w2 ⟨rfl,hb⟩
  have HV:=hq (HFI.o db de w2 HE.o (below_trans HB1.o hb))
  clear HFI HQD hb HB1 HE
  go_wp2_with fail
  first|exact HV.o|(go_ret2;exact HV.o)
 |false=>
  have HE:Hq ((safeL 0 qb,qe)=(IQ,(0:Int))):=hq HRE.o
  clear HRE HQD
  go_wp2_with fail
  refine(HQU.o _).mono ?_
  rintro e w2 ⟨rfl,hb⟩
  have HB2:=hq (below_trans HB1.o hb)
  clear HQU hb HB1
  go_wp2_with fail
  refine(HSF.o _).mono ?_
  rintro e w3 ⟨rfl,hb⟩
  have HV:=hq (HFI.o _ qe w3 HE.o (below_trans HB2.o hb))
  clear HFI HSF hb HB2 HE
  go_wp2_with fail
  first|exact HV.o|(go_ret2;exact HV.o)
end Go.Proofs.YtkafjblfjdpdaaaGreatDoor
namespace Go.Proofs.YtkafjblfjdpdaaaGreatDoor
open Go.RowKit
set_option maxHeartbeats 4000000 in
set_option maxRecDepth 1000000 in
theorem rblanks(n:Nat)(w:World)(hn:n≤1000000):Calls Tryz.prog 140 #[.int .i64 (n:Int)] w fun e w'=>e= .returned (.string (st (List.replicate n 32)))∧Below w.heap.size w w':=by
 have HP:Hq (∀s W',s=st (List.replicate n 32)→Below w.heap.size w W'→(fun (e:Ending) (w':World)=>e= .returned (.string (st (List.replicate n 32)))∧Below w.heap.size w w') (.returned (.string s)) W'):=hq (fun s W' h1 h2=>⟨by rw[h1],h2⟩)
 generalize (fun (e:Ending) (w':World)=>e= .returned (.string (st (List.replicate n 32)))∧Below w.heap.size w w')=PP at *
 have HB:=hq (Below.refl w.heap.size w)
 go_enter Tryz.func140,Tryz.ntmps140
 go_wp2_with fail
 go_loopw [3,4] (fun a i wr=> ∃j:Nat,j≤n∧a= .string (st (List.replicate j 32))∧i= .int .i64 (j:Int)∧Hq (Below w.heap.size w wr)) (fun _ i _=>n-(intOf i).toNat)
 case atStart=>exact⟨0,Nat.zero_le _,rfl,rfl,HB⟩
 case round=>
  obtain⟨j,hj,rfl,rfl,hb⟩:=hrel
  by_cases h:j<n
  ·have hz:(j:Int)<(n:Int):=by omega
   go_wp2_with fail
   go_roundw
   case rel=>exact⟨j+1,h,by rw[List.replicate_succ',←cat_st],int_eq (by omega),hb⟩
   case measure=>(try simp[intOf]);omega
  ·have hz: ¬(j:Int)<(n:Int):=by omega
   have e:j=n:=by omega
   subst e
   have HV:=hq (HP.o _ wr rfl hb.o)
   clear HP
   go_wp2_with fail
   first
    |exact HV.o
    |(go_ret
      exact HV.o)
end Go.Proofs.YtkafjblfjdpdaaaGreatDoor
