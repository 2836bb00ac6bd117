/-
  WALKS: quote.Quote.
-/
import Derived.Test.YtkafjblfjdpdaaaGreatDoorQuoteW
import Derived.Test.YtkafjblfjdpdaaaGreatDoorRun
namespace Go.Proofs.YtkafjblfjdpdaaaGreatDoor
open Go.RowKit
theorem escOf_qb(c:Nat)(x:UInt8)(h:c<128)(hc:escOf (c:Int)=some x):qb (UInt8.ofNat c)=[92,x]:=by
 have key: ∀c:Nat,c<128→ ∀x,escOf (c:Int)=some x→qb (UInt8.ofNat c)=[92,x]:=by decide+kernel
 exact key c h x hc
theorem escOf_hex(c:Nat)(h:c<32)(hc:escOf (c:Int)=none):qb (UInt8.ofNat c)=[92,117,48,48,hexd (c/16),hexd (c%16)]:=by
 have key: ∀c:Nat,c<32→escOf (c:Int)=none→qb (UInt8.ofNat c)=[92,117,48,48,hexd (c/16),hexd (c%16)]:=by decide+kernel
 exact key c h hc
theorem escOf_one(c:Nat)(h0:32≤c)(h:c<128)(hc:escOf (c:Int)=none):qb (UInt8.ofNat c)=[UInt8.ofNat c]:=by
 have key: ∀c:Nat,c<128→32≤c→escOf (c:Int)=none→qb (UInt8.ofNat c)=[UInt8.ofNat c]:=by decide+kernel
 exact key c h h0 hc
theorem escOf_high(c:Int)(h:128≤c):escOf c=none:=by
 unfold escOf
 repeat' split
 all_goals first|rfl|omega
def partAt(s:ByteArray)(p:Nat):Bs:=if byt s p<128 then qb (UInt8.ofNat (byt s p)) else runeAt s p
theorem write_at(s:ByteArray)(p:Nat)(hp:p<s.size)(hbad: ¬bad s p)(B b:Nat)(l:Bs)(w:World)(h:Bld B b l w)(hl:l.length+6≤140737488355328)(hB:B≤w.heap.size):
 Calls Tryz.prog 100 #[.pointer (some ⟨b,0,none⟩),.int .i32 ((Utf8.decode s p).1:Int)] w (UnitPost B b (l++partAt s p) w):=by
 unfold partAt
 by_cases hlow:byt s p<128
 ·rw[if_pos hlow,dec_low s p hlow]
  simp only
  generalize byt s p=c at *
  cases he:escOf (c:Int) with
  |some x=>rw[escOf_qb c x hlow he];exact write_esc B b l c x w he h hl hB
  |none=>
   by_cases h32:c<32
   ·rw[escOf_hex c h32 he]
    have hx:=hex_is (c:Int) (by omega) (by omega) he
    rw[show (c:Int).toNat=c by omega]at hx
    exact write_hex B b l c _ _ w hx h hl hB
   ·rw[escOf_one c (by omega) hlow he]
    refine write_rune B b l _ c w (by omega) (by omega) he ?_ h hl hB
    unfold Lib.runeCells Lib.byteCells
    rw[Lib.encodeRuneZ_one (by omega) (by omega)]
    simp only[List.map_cons,List.map_nil]
    rw[UInt8.toNat_ofNat_of_lt' (show c<256 by omega)]
 ·rw[if_neg hlow]
  have hh:=dec_high s p (by omega)
  have hf:=dec_fine s p hbad
  exact write_rune B b l _ _ w (by omega) (by omega) (escOf_high _ (by omega)) (runeCells_at s p hp hbad) h hl hB
theorem quoteB_part(s:ByteArray)(p:Nat)(h:p<s.size):quoteB (s.data.toList.take (p+wd s p))=quoteB (s.data.toList.take p)++partAt s p:=quoteB_rune s p h
theorem take_le(s:ByteArray)(p:Nat):(34::quoteB (s.data.toList.take p)).length≤6*p+1:=by
 have h1:=quoteB_len (s.data.toList.take p)
 have h2:(s.data.toList.take p).length≤p:=List.length_take_le _ _
 rw[List.length_cons]
 omega
set_option maxHeartbeats 1000000 in
set_option maxRecDepth 1000000 in
theorem quote_any(s:ByteArray)(w:World)(hT:tabs w)(hs:s.size≤1099511627776):
 Calls Tryz.prog 55 #[.string s] w fun e w'=>e= .returned (.tuple #[.string (st (quoteM s).1),.int .i64 (quoteM s).2])∧Below w.heap.size w w':=by
 have hv:=valid_any s w hT (by unfold maxLen;omega)
 have hm: ∀b,(valid s).2=b→quoteM s=if b=true then(34::quoteB s.data.toList++[34],0) else([],2):=fun b hb=>by unfold quoteM;rw[hb]
 generalize quoteM s=Q at *
 have hvv:(valid s).2=true→(vld s s.size 0).2=true:=fun h=>h
 generalize valid s=V at *
 obtain⟨vp,vo⟩:=V
 have HM:=hq hm
 have HV:=hq hv
 have HVV:=hq hvv
 clear hm hv hvv hT
 go_enter Tryz.func55,Tryz.ntmps55
 go_wp2_with fail
 refine HV.o.mono ?_
 rintro e w1 ⟨rfl,hb⟩
 cases vo with
 |false=>
  have HN:=hq (HM.o false rfl)
  clear HM HV HVV
  go_wp2_with fail
  go_ret2
  exact⟨by rw[HN.o];rfl,hb⟩
 |true=>
  have HN:Hq (Q=(34::quoteB s.data.toList++[34],0)):=hq (HM.o true rfl)
  have HVF:Hq ((vld s s.size 0).2=true):=hq (HVV.o rfl)
  clear HM HV HVV
  have hsz:=hb.size
  have hbd:Bld w1.heap.size w1.heap.size [] (w1.alloc (.cells #[.pointer none,.slice none 0 0] 98)):=Lib.IsBuilderF.of (Lib.fresh_isBuilder _ _ _)
  have HBD:=hq hbd
  have hb2:Below w.heap.size w (w1.alloc (.cells #[.pointer none,.slice none 0 0] 98)):=hb.alloc hsz _
  clear hbd
  go_wp2_with fail
  refine(wbyte w1.heap.size w1.heap.size [] 34 _ HBD.o (by simp) (by rw[World.size_alloc];omega)).mono ?_
  rintro e w2 ⟨rfl,hw2⟩
  have hb3:Below w.heap.size w w2:=hb2.trans (hw2.2.1.mono hsz)
  have hlt:w1.heap.size<w2.heap.size:=by
   have:=hw2.2.1.size
   obtain⟨_,v,hbv,_⟩|⟨_,v,hbv,_⟩:=hw2.1<;>exact (Array.getElem?_eq_some_iff.1 hbv).1
  have HBD2:Hq (Bld w1.heap.size w1.heap.size [34] w2):=hq hw2.1
  clear hw2 hb2 HBD hb
  go_wp2_with fail
  have hbI:=Lib.IsBuilderF.alloc HBD2.o (.stringIter s 0)
  have HBI:Hq (Bld w1.heap.size w1.heap.size (34::quoteB (s.data.toList.take 0)) (w2.iter s 0)):=hq hbI
  clear hbI HBD2
  have hb4:Below w.heap.size w (w2.iter s 0):=hb3.alloc (Nat.le_trans hsz (Nat.le_of_lt hlt)) _
  go_loopw [] (fun wr=> ∃(pos f:Nat),pos≤s.size∧wr.heap[w2.heap.size]?=some (.stringIter s pos)∧Hq (Bld w1.heap.size w1.heap.size (34::quoteB (s.data.toList.take pos)) wr)∧Below w.heap.size w wr∧Hq ((vld s f pos).2=true)∧s.size≤pos+f)
   (fun wr=>s.size-wr.iterPos w2.heap.size)
  case atStart=>exact⟨0,s.size,by omega,World.iter_heap w2 s 0,HBI,hb4,HVF,by omega⟩
  case round=>
   obtain⟨pos,f,hps,hit,hbd,hbw,hvl,hf⟩:=hrel
   clear hb4 HBI HVF hb3
   have hlt2:w2.heap.size<wr.heap.size:=(Array.getElem?_eq_some_iff.1 hit).1
   have hlen:=take_le s pos
   by_cases hp:pos<s.size
   ·have hnx: ∀ty,(Instr.next (.pointer (some ⟨w2.heap.size,0,none⟩)) true ty).run Tryz.prog wr=_:=fun ty=>Lib.run_next_any_at wr w2.heap.size s pos ty hit hp
    obtain⟨f,rfl⟩: ∃g,f=g+1:=⟨f-1,by omega⟩
    have hnb: ¬bad s pos:=fun h=>by
     have:=hvl.o
     rw[vld_bad s f pos hp h]at this
     cases this
    have HVN:Hq ((vld s f (pos+wd s pos)).2=true):=hq (by rw[←vld_step s f pos hp hnb];exact hvl.o)
    have hwp:=wd_pos s pos
    have hwl:=wd_le s pos hp
    have hit2:=Lib.iterAt_heap wr w2.heap.size s pos (pos+(Utf8.decode s pos).2) hit
    have hb2:=Lib.below_iterAt hbw (k:=w2.heap.size) (by omega) s (pos+(Utf8.decode s pos).2)
    have hbd2:Bld w1.heap.size w1.heap.size (34::quoteB (s.data.toList.take pos)) (wr.iterAt w2.heap.size s (pos+(Utf8.decode s pos).2)):=Lib.IsBuilderF.iterAt hbd.o hit _
    have hsz2:w1.heap.size≤(wr.iterAt w2.heap.size s (pos+(Utf8.decode s pos).2)).heap.size:=by rw[Lib.iterAt_size];omega
    have hcall:=write_at s pos hp hnb w1.heap.size w1.heap.size _ _ hbd2 (by omega) hsz2
    have HC:=hq hcall
    have HIT:=hq hit2
    have HB2:=hq hb2
    have HPART:Hq (34::quoteB (s.data.toList.take pos)++partAt s pos=34::quoteB (s.data.toList.take (pos+wd s pos))):=hq (by rw[quoteB_part s pos hp];rfl)
    have HWD:Hq (pos+wd s pos=pos+(Utf8.decode s pos).2):=hq rfl
    have HST:=hq hit
    clear hcall hbd2 hnb hvl hbd hit hit2 hb2
    go_wp2_with fail
    refine HC.o.mono ?_
    rintro e w3 ⟨rfl,h3⟩
    have hit3:=Lib.OthersKept.iter h3.2.2 HIT.o (by omega)
    have hb5:Below w.heap.size w w3:=HB2.o.trans (h3.2.1.mono hsz)
    have HBD3:Hq (Bld w1.heap.size w1.heap.size (34::quoteB (s.data.toList.take (pos+wd s pos))) w3):=hq (by rw[←HPART.o];exact h3.1)
    have hmes:w3.iterPos w2.heap.size=pos+wd s pos:=by simp only[World.iterPos,hit3];rfl
    have hmes0:wr.iterPos w2.heap.size=pos:=by simp only[World.iterPos,HST.o]
    have HM3:=hq hmes
    have HM0:=hq hmes0
    clear h3 HC HPART hmes hmes0
    go_wp2_with fail
    go_roundw
    case rel=>exact⟨pos+wd s pos,f,hwl,hit3,HBD3,hb5,HVN,by omega⟩
    case measure=>rw[HM3.o,HM0.o];omega
   ·have hnx: ∀ty,(Instr.next (.pointer (some ⟨w2.heap.size,0,none⟩)) true ty).run Tryz.prog wr=_:=fun ty=>Lib.run_next_end_at wr w2.heap.size s pos ty hit hp
    obtain rfl:pos=s.size:=by omega
    have htk:s.data.toList.take s.size=s.data.toList:=List.take_of_length_le (by rw[Array.length_toList];exact Nat.le_refl _)
    rw[htk]at hbd hlen
    have HC:=hq (wbyte w1.heap.size w1.heap.size _ 34 wr hbd.o (by omega) (by omega))
    clear hvl
    go_wp2_with fail
    refine HC.o.mono ?_
    rintro e w3 ⟨rfl,h3⟩
    have hb5:Below w.heap.size w w3:=hbw.trans (h3.2.1.mono hsz)
    have hS:=Tryz.Builder_String_any_k w1.heap.size w1.heap.size _ w3 h3.1 (Nat.le_trans (by omega) h3.2.1.size)
    have HS:=hq hS
    clear hS h3 HC
    go_wp2_with fail
    refine HS.o.mono ?_
    rintro e w4 ⟨rfl,_,h5,_⟩
    have hb6:Below w.heap.size w w4:=hb5.trans (h5.mono hsz)
    clear h5 hbd
    go_wp2_with fail
    go_ret2
    exact⟨by rw[HN.o];rfl,hb6⟩
end Go.Proofs.YtkafjblfjdpdaaaGreatDoor
