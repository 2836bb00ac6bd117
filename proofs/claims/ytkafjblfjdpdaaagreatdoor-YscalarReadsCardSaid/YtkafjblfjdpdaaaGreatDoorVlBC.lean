/-
  WALKS: runes.Next, runes.Valid.
  PLAIN MATHEMATICS: what Valid answers.
  WALKS: runes.Valid.
  PLAIN MATHEMATICS: a rune's bytes, encoded again; Valid's steps.
  PLAIN MATHEMATICS: a text in quotes, as bytes.
  A BUILDER THAT THE CALL MAKES: what it holds.
  A BUILDER: WriteByte.
  A BUILDER: WriteString.
  A BUILDER: WriteRune.
  PLAIN MATHEMATICS: Compare of right numbers is 0 of equal ones alone; it is an order; of ints that of ints.
  PLAIN MATHEMATICS: which trees are values, and their order.
  PLAIN MATHEMATICS: the items' numbers in the order of their keys.
-/
import Derived.Test.YtkafjblfjdpdaaaGreatDoorNumK
import Derived.Shelf.SlSortCmp.Insertion
set_option maxHeartbeats 1000000
namespace Go.Proofs.YtkafjblfjdpdaaaGreatDoor
open Go.RowKit
abbrev tabs(w:World):Prop:=Lib.Utf8Tabs 1 2 w
def nxt(s:ByteArray)(at':Int):Int×Int:=if at'<0\/(s.size:Int)<=at' then(0,0) else((Utf8.decode s at'.toNat).1,(Utf8.decode s at'.toNat).2)
theorem zQ7(s:ByteArray)(pos:Nat)(h:pos<s.size):Lib.decodeGo (s.extract pos s.size)=Utf8.decode s pos:=by
 unfold Lib.decodeGo;rw[if_neg (by rw[ByteArray.size_extract];omega)];have:=zx0 s pos s.size 0 (Nat.le_refl _) (.inl rfl) (by omega);simpa using this
theorem zP4(s:ByteArray)(a:Int)(w:World)(hT:tabs w)(_hs:s.size<=maxLen)(ha:-9223372036854775808<=a/\a<=9223372036854775807):
 Calls Tryz.prog 59 #[.string s,.int .i64 a] w fun e w'=>e= .returned (.tuple #[.int .i32 (nxt s a).1,.int .i64 (nxt s a).2])/\Below w.heap.size w w':=by
 unfold maxLen at _hs;obtain⟨ha1,ha2⟩:=ha;by_cases h0:a<0
 ·have hn:nxt s a=(0,0):=by unfold nxt;rw[if_pos (.inl h0)]
  rw[hn];clear hn;go_enter Tryz.func59,Tryz.ntmps59
  go_wp2
  go_ret2
  exact⟨rfl,Below.refl _ _⟩
 ·by_cases h1:(s.size:Int)<=a
  ·have hn:nxt s a=(0,0):=by unfold nxt;rw[if_pos (.inr h1)]
   rw[hn];clear hn;go_enter Tryz.func59,Tryz.ntmps59
   go_wp2
   go_ret2
   exact⟨rfl,Below.refl _ _⟩
  ·obtain ⟨n,rfl⟩:=Int.eq_ofNat_of_zero_le (by omega:0<=a);have hn:nxt s (n:Int)=(((Lib.decodeGo (s.extract n s.size)).1:Int),((Lib.decodeGo (s.extract n s.size)).2:Int)):=by
    unfold nxt;rw[if_neg (by omega),zQ7 s n (by omega)];rfl
   rw[hn];clear hn;have H:=Lib.hid hT;clear hT;go_enter Tryz.func59,Tryz.ntmps59
   go_wp2_with fail
   refine(Tryz.utf8_DecodeRuneInString _ _ H.out).mono ?_;rintro e w' ⟨rfl,hb⟩;go_wp2
   go_ret2
   exact⟨rfl,hb⟩
def bad(s:ByteArray)(p:Nat):Prop:=(Utf8.decode s p).1=65533/\(Utf8.decode s p).2=1
instance (s:ByteArray) (p:Nat):Decidable (bad s p):=by unfold bad;infer_instance
def vld(s:ByteArray):Nat->Nat->Nat×Bool
 |0,_=>(s.size,true)
 |f+1,p=>if p<s.size then(if bad s p then(p,false) else vld s f (p+wd s p)) else(s.size,true)
def valid(s:ByteArray):Nat×Bool:=vld s s.size 0
theorem zN(s:ByteArray)(f p:Nat)(h: ¬p<s.size):vld s f p=(s.size,true):=by
 cases f with
 |zero=>rfl
 |succ f=>unfold vld;rw[if_neg h]
theorem zp9 {w w':World} {B:Nat} (h:tabs w)(hb:Below B w w')(h1:1<B)(h2:2<B):tabs w':=
 ⟨fun c hc=>by rw[hb.cell (p:=⟨1,c,none⟩) h1];exact h.1 c hc,
  fun i hi=>⟨by rw[hb.cell (p:=⟨2,2*i,none⟩) h2];exact(h.2 i hi).1,by rw[hb.cell (p:=⟨2,2*i+1,none⟩) h2];exact(h.2 i hi).2⟩⟩
theorem zm5 {w:World} (h:tabs w):1<w.heap.size/\2<w.heap.size:=
 ⟨Go.block_lt_of_cell (h.1 0 (by omega)),Go.block_lt_of_cell (h.2 0 (by omega)).1⟩
theorem zi5 {w w':World} (h:tabs w)(hb:Below w.heap.size w w'):tabs w':=zp9 h hb (zm5 h).1 (zm5 h).2
theorem zs3(s:ByteArray)(w:World)(hT:tabs w)(hs:s.size<=maxLen):
 Calls Tryz.prog 26 #[.string s] w fun e w'=>e= .returned (.tuple #[.int .i64 (valid s).1,.bool (valid s).2])/\Below w.heap.size w w':=by
 have HT:=Lib.hid hT;have hsz:=zm5 hT;clear hT;have HS:=Lib.hid hs;unfold maxLen at hs;generalize hV:valid s=V;have HV:=Lib.hid hV;clear hV;go_enter Tryz.func26,Tryz.ntmps26
 go_wp2
 go_loopw [] (fun wr=> ∃(pos f:Nat),wr.heap[w.heap.size]?=some (.stringIter s pos)/\Below w.heap.size w wr/\vld s f pos=V/\s.size<=pos+f) (fun wr=>s.size-wr.iterPos w.heap.size)
 case atStart=>exact⟨0,s.size,World.iter_heap w s 0,(Below.refl _ _).alloc (Nat.le_refl _) _,HV.out,by omega⟩
 case round=>
  obtain⟨pos,f,hit,hb,hv,hf⟩:=hrel;have hlt:w.heap.size<wr.heap.size:=(Array.getElem?_eq_some_iff.1 hit).1;have HVl:=Lib.hid hv;clear hv;by_cases hp:pos<s.size
  ·have hnx: ∀ty,(Instr.next (.pointer (some ⟨w.heap.size,0,none⟩)) true ty).run Tryz.prog wr=_:=fun ty=>Lib.run_next_any_at wr w.heap.size s pos ty hit hp
   obtain⟨f,rfl⟩: ∃g,f=g+1:=⟨f-1,by omega⟩;have hwp:=zi4 s pos;have hit2:=Lib.iterAt_heap wr w.heap.size s pos (pos+(Utf8.decode s pos).2) hit;have hb2:=Lib.below_iterAt hb (k:=w.heap.size) (Nat.le_refl _) s (pos+(Utf8.decode s pos).2);have hT2:Hid (tabs (wr.iterAt w.heap.size s (pos+(Utf8.decode s pos).2))):=Lib.hid (zp9 HT.out hb2 hsz.1 hsz.2);have hsz2:=Lib.iterAt_size wr w.heap.size s (pos+(Utf8.decode s pos).2);have HSz2:=Lib.hid hsz2;clear hsz2;have hdl:=decode_le s pos;have hn:nxt s pos=(((Utf8.decode s pos).1:Int),((Utf8.decode s pos).2:Int)):=by unfold nxt;rw[if_neg (by omega)];rfl
   have HN:=Lib.hid hn;clear hn;have hw1:wd s pos=(Utf8.decode s pos).2:=rfl;have HW:=Lib.hid hw1;clear hw1;by_cases hc:(Utf8.decode s pos).1=65533
   ·have HC:=Lib.hid hc;have hcb:(((Utf8.decode s pos).1:Int) !=65533)=false:=by simp[hc]
    clear hc;go_wp2_with fail
    refine(zP4 s pos _ hT2.out HS.out (by omega)).mono ?_;rintro e w' ⟨rfl,hb3⟩;have hit3:w'.heap[w.heap.size]?=some (.stringIter s (pos+(Utf8.decode s pos).2)):=(hb3.block _ (by rw[HSz2.out];exact hlt)).trans hit2;have hb4:=hb2.trans (hb3.mono (by rw[HSz2.out];omega));rw[HN.out];by_cases hw:(Utf8.decode s pos).2=1
    ·have hwb:((((Utf8.decode s pos).2:Nat):Int)==1)=true:=by simp[hw]
     have hr:=HVl.out;unfold vld at hr;rw[if_pos hp,if_pos ⟨HC.out,hw⟩]at hr;have HR:=Lib.hid hr;clear hr hw;go_wp2
     go_ret2
     rw[←HR.out];exact⟨rfl,hb4⟩
    ·have hwb:((((Utf8.decode s pos).2:Nat):Int)==1)=false:=by simp;omega
     have hr:=HVl.out;unfold vld at hr;rw[if_pos hp,if_neg (fun h=>hw h.2)]at hr;have HR:=Lib.hid hr;clear hr hw;go_wp2
     go_roundw
     case rel=>exact⟨pos+(Utf8.decode s pos).2,f,hit3,hb4,HR.out,by rw[←HW.out];omega⟩
     case measure=>simp only[World.iterPos,hit3,hit];rw[←HW.out];omega
   ·have hcb:(((Utf8.decode s pos).1:Int) !=65533)=true:=by simp;omega
    have hr:=HVl.out;unfold vld at hr;rw[if_pos hp,if_neg (fun h=>hc h.1)]at hr;have HR:=Lib.hid hr;clear hr hc;go_wp2
    go_roundw
    case rel=>exact⟨pos+(Utf8.decode s pos).2,f,hit2,hb2,HR.out,by rw[←HW.out];omega⟩
    case measure=>simp only[World.iterPos,hit2,hit];rw[←HW.out];omega
  ·have hnx: ∀ty,(Instr.next (.pointer (some ⟨w.heap.size,0,none⟩)) true ty).run Tryz.prog wr=_:=fun ty=>Lib.run_next_end_at wr w.heap.size s pos ty hit hp
   go_wp2
   go_ret2
   have:=HVl.out;rw[zN s f pos hp]at this;subst this;exact⟨rfl,hb⟩
theorem zo7 {a b:ByteArray} (h:a.data=b.data):a=b:=by
 cases a;cases b;simp_all
theorem zw2(s:ByteArray)(p:Nat)(h:p<s.size):s[p]=UInt8.ofNat (byt s p):=by
 rw[zb6 s p h];simp
theorem ext_one(s:ByteArray)(p:Nat)(h:p+1<=s.size):s.extract p (p+1)=⟨#[UInt8.ofNat (byt s p)]⟩:=by
 refine ByteArray.ext_getElem (by rw[ByteArray.size_extract];show _=1;omega) fun i h1 h2=> ?_
 have hi:i<1:=h2;obtain rfl:i=0:=by omega
 rw[ByteArray.getElem_extract,←zw2 s p (by omega)];simp;rfl
theorem ext_two(s:ByteArray)(p:Nat)(h:p+2<=s.size):s.extract p (p+2)=⟨#[UInt8.ofNat (byt s p),UInt8.ofNat (byt s (p+1))]⟩:=by
 refine ByteArray.ext_getElem (by rw[ByteArray.size_extract];show _=2;omega) fun i h1 h2=> ?_
 have hi:i<2:=h2;rw[ByteArray.getElem_extract,←zw2 s p (by omega),←zw2 s (p+1) (by omega)]
 match i,hi with
 |0,_=>rfl
 |1,_=>rfl
theorem ext_three(s:ByteArray)(p:Nat)(h:p+3<=s.size):s.extract p (p+3)=⟨#[UInt8.ofNat (byt s p),UInt8.ofNat (byt s (p+1)),UInt8.ofNat (byt s (p+2))]⟩:=by
 refine ByteArray.ext_getElem (by rw[ByteArray.size_extract];show _=3;omega) fun i h1 h2=> ?_
 have hi:i<3:=h2;rw[ByteArray.getElem_extract,←zw2 s p (by omega),←zw2 s (p+1) (by omega),←zw2 s (p+2) (by omega)]
 match i,hi with
 |0,_=>rfl
 |1,_=>rfl
 |2,_=>rfl
theorem ext_four(s:ByteArray)(p:Nat)(h:p+4<=s.size):s.extract p (p+4)=⟨#[UInt8.ofNat (byt s p),UInt8.ofNat (byt s (p+1)),UInt8.ofNat (byt s (p+2)),UInt8.ofNat (byt s (p+3))]⟩:=by
 refine ByteArray.ext_getElem (by rw[ByteArray.size_extract];show _=4;omega) fun i h1 h2=> ?_
 have hi:i<4:=h2;rw[ByteArray.getElem_extract,←zw2 s p (by omega),←zw2 s (p+1) (by omega),←zw2 s (p+2) (by omega),←zw2 s (p+3) (by omega)]
 match i,hi with
 |0,_=>rfl
 |1,_=>rfl
 |2,_=>rfl
 |3,_=>rfl
theorem mk2 {a a' b b':Nat} (h:a=a')(i:b=b'):(⟨#[UInt8.ofNat a,UInt8.ofNat b]⟩:ByteArray)=⟨#[UInt8.ofNat a',UInt8.ofNat b']⟩:=by rw[h,i]
theorem mk3 {a a' b b' c c':Nat} (h:a=a')(i:b=b')(j:c=c'):(⟨#[UInt8.ofNat a,UInt8.ofNat b,UInt8.ofNat c]⟩:ByteArray)=⟨#[UInt8.ofNat a',UInt8.ofNat b',UInt8.ofNat c']⟩:=by rw[h,i,j]
theorem mk4 {a a' b b' c c' d d':Nat} (h:a=a')(i:b=b')(j:c=c')(k:d=d'):(⟨#[UInt8.ofNat a,UInt8.ofNat b,UInt8.ofNat c,UInt8.ofNat d]⟩:ByteArray)=⟨#[UInt8.ofNat a',UInt8.ofNat b',UInt8.ofNat c',UInt8.ofNat d']⟩:=by rw[h,i,j,k]
theorem zq6(c:Nat)(h:c<55296\/57344<=c/\c<=1114111):Utf8.encode (c:Int)=
 if c<0x80 then⟨#[UInt8.ofNat c]⟩
 else if c<0x800 then⟨#[UInt8.ofNat (0xC0+c/64),UInt8.ofNat (0x80+c%64)]⟩
 else if c<0x10000 then⟨#[UInt8.ofNat (0xE0+c/4096),UInt8.ofNat (0x80+c/64%64),UInt8.ofNat (0x80+c%64)]⟩
 else⟨#[UInt8.ofNat (0xF0+c/262144),UInt8.ofNat (0x80+c/4096%64),UInt8.ofNat (0x80+c/64%64),UInt8.ofNat (0x80+c%64)]⟩:=by
 have hv:Utf8.valid (c:Int)=true:=by
  simp only[Utf8.valid,Bool.and_eq_true,Bool.or_eq_true,decide_eq_true_eq];omega
 unfold Utf8.encode;simp only[hv,if_true,Int.toNat_natCast]
theorem enc_dec(s:ByteArray)(p:Nat)(h:p<s.size)(hb: ¬bad s p):Utf8.encode (Utf8.decode s p).1=s.extract p (p+(Utf8.decode s p).2):=by
 have hle:=zp8 s p h;have h0:=zd3 s p;have h1:=zd3 s (p+1);have h2:=zd3 s (p+2);have h3:=zd3 s (p+3);unfold bad at hb;unfold wd at hle;have x1:=ext_one s p;have x2:=ext_two s p;have x3:=ext_three s p;have x4:=ext_four s p;rw[zk3]at *;generalize s.size-p=n at *;generalize byt s (p+1)=b1 at *;generalize byt s (p+2)=b2 at *;generalize byt s (p+3)=b3 at *;generalize byt s p=b0 at *;revert hb hle;unfold Lib.decodeN;split
 ·intro hb hle;rw[x1 hle,zq6 _ (by simp only;omega),if_pos (by simp only;omega)]
 ·split
  ·split
   ·intro hb hle;rw[x2 hle,zq6 _ (by simp only;omega),if_neg (by simp only;omega),if_pos (by simp only;omega)];refine mk2 ?_ ?_<;>simp only<;>omega
   ·intro hb hle;simp at hb
  ·split
   ·split
    ·intro hb hle;rw[x3 hle,zq6 _ (by simp only;omega),if_neg (by simp only;omega),if_neg (by simp only;omega),if_pos (by simp only;omega)];refine mk3 ?_ ?_ ?_<;>simp only<;>omega
    ·intro hb hle;simp at hb
   ·split
    ·split
     ·intro hb hle;rw[x4 hle,zq6 _ (by simp only;omega),if_neg (by simp only;omega),if_neg (by simp only;omega),if_neg (by simp only;omega)];refine mk4 ?_ ?_ ?_ ?_<;>simp only<;>omega
     ·intro hb hle;simp at hb
    ·intro hb hle;simp at hb
theorem zD(s:ByteArray)(f p:Nat)(h:p<s.size)(hb: ¬bad s p):vld s (f+1) p=vld s f (p+wd s p):=by
 rw[vld,if_pos h,if_neg hb]
theorem vld_bad(s:ByteArray)(f p:Nat)(h:p<s.size)(hb:bad s p):vld s (f+1) p=(p,false):=by
 rw[vld,if_pos h,if_pos hb]
def hexd(k:Nat):UInt8:=if k<10 then UInt8.ofNat (48+k) else UInt8.ofNat (87+k)
def qb(c:UInt8):Bs:=
 if c=34\/c=92 then [92,c] else if c=8 then [92,98] else if c=12 then [92,102] else if c=10 then [92,110] else if c=13 then [92,114] else if c=9 then [92,116]
 else if c<32 then [92,117,48,48,hexd (c.toNat/16),hexd (c.toNat%16)] else [c]
def ze1(l:Bs):Bs:=l.flatMap qb
def zg6(s:ByteArray):Bs×Int:=if (valid s).2=true then(34::ze1 s.data.toList++[34],0) else([],2)
theorem qb_high {c:UInt8} (h:128<=c.toNat):qb c=[c]:=by
 unfold qb;have e: ∀d:UInt8,d.toNat<128->c≠d:=fun d hd hc=>by
  rw[hc]at h;omega
 rw[if_neg (fun h=>h.elim (e 34 (by decide)) (e 92 (by decide))),if_neg (e 8 (by decide)),if_neg (e 12 (by decide)),if_neg (e 10 (by decide)),if_neg (e 13 (by decide)),if_neg (e 9 (by decide)),if_neg];intro h2;have:c.toNat<32:=h2;omega
theorem zr5: ∀l:Bs,(∀c∈l,128<=c.toNat)->ze1 l=l
 | [],_=>rfl
 |c::l,h=>by
  show qb c++ze1 l=c::l;rw[qb_high (h c (by simp)),zr5 l (fun x hx=>h x (by simp[hx]))];rfl
theorem zA3(a b:Bs):ze1 (a++b)=ze1 a++ze1 b:=List.flatMap_append
theorem qb_len(c:UInt8):(qb c).length<=6:=by
 unfold qb
 repeat' split
 all_goals simp
theorem zu6: ∀l:Bs,(ze1 l).length<=6*l.length
 | []=>by simp[ze1]
 |c::l=>by
  have h1:=qb_len c;have h2:=zu6 l;have e:ze1 (c::l)=qb c++ze1 l:=rfl;rw[e,List.length_append,List.length_cons];omega
def zd2(s:ByteArray)(p:Nat):Bs:=(s.data.toList.drop p).take (wd s p)
theorem zi9(s:ByteArray)(p:Nat)(h:p<s.size):(zd2 s p).length=wd s p:=by
 have:=zp8 s p h;unfold zd2;rw[List.length_take,List.length_drop,Array.length_toList];show min (wd s p) (s.size-p)=_;omega
theorem runeAt_take(s:ByteArray)(p:Nat):s.data.toList.take (p+wd s p)=s.data.toList.take p++zd2 s p:=by
 unfold zd2;rw[List.take_add]
theorem zq(s:ByteArray)(p:Nat)(h:p<s.size)(hb:byt s p<128):zd2 s p=[UInt8.ofNat (byt s p)]:=by
 unfold zd2;rw[zK1 s p hb];have hl:p<s.data.toList.length:=by rw[Array.length_toList];exact h
 rw[List.drop_eq_getElem_cons hl,List.take_succ_cons,List.take_zero]
 congr 1
 apply UInt8.toNat_inj.1;rw[UInt8.toNat_ofNat_of_lt' (show byt s p<256 from zd3 s p),zb6 s p h];rfl
theorem zo0(s:ByteArray)(p:Nat)(h:p<s.size)(hb:128<=byt s p): ∀c∈zd2 s p,128<=c.toNat:=by
 intro c hc;have hle:=zp8 s p h;obtain⟨j,hj,rfl⟩:=List.mem_iff_getElem.1 hc;have hj2:j<wd s p:=by rw[zi9 s p h]at hj;exact hj
 have e:(zd2 s p)[j].toNat=byt s (p+j):=by
  rw[zb6 s (p+j) (by omega)];simp only[zd2,List.getElem_take,List.getElem_drop];rfl
 rw[e];cases j with
 |zero=>exact hb
 |succ j=>exact wd_cont s p (j+1) (by omega) hj2
theorem quoteB_rune(s:ByteArray)(p:Nat)(h:p<s.size):ze1 (s.data.toList.take (p+wd s p))=ze1 (s.data.toList.take p)++(if byt s p<128 then qb (UInt8.ofNat (byt s p)) else zd2 s p):=by
 rw[runeAt_take,zA3]
 congr 1
 by_cases hb:byt s p<128
 ·rw[if_pos hb,zq s p h hb];show qb _++[]=_;rw[List.append_nil]
 ·rw[if_neg hb];exact zr5 _ (zo0 s p h (by omega))
theorem zv0(s:ByteArray)(p:Nat)(hb: ¬bad s p):(Utf8.decode s p).1<55296\/57344<=(Utf8.decode s p).1/\(Utf8.decode s p).1<=1114111:=by
 unfold bad at hb;rw[zk3]at hb ⊢;have h0:=zd3 s p;have h1:=zd3 s (p+1);have h2:=zd3 s (p+2);have h3:=zd3 s (p+3);generalize s.size-p=n at *;generalize byt s (p+1)=b1 at *;generalize byt s (p+2)=b2 at *;generalize byt s (p+3)=b3 at *;generalize byt s p=b0 at *;revert hb;unfold Lib.decodeN;split
 ·intro hb;simp only;omega
 ·split
  ·split
   ·intro hb;simp only;omega
   ·intro hb;simp at hb
  ·split
   ·split
    ·intro hb;simp only;omega
    ·intro hb;simp at hb
   ·split
    ·split
     ·intro hb;simp only;omega
     ·intro hb;simp at hb
    ·intro hb;simp at hb
theorem zm7(s:ByteArray)(p:Nat)(h:p<s.size)(hb: ¬bad s p):Lib.runeCells (Utf8.decode s p).1=Lib.byteCells (zd2 s p):=by
 have he:=enc_dec s p h hb;have hr:zd2 s p=(Utf8.encode (Utf8.decode s p).1).data.toList:=by
  rw[he,zB1,zc7];have e:p+(Utf8.decode s p).2-p=wd s p:=by unfold wd;omega
  rw[e];rfl
 rw[hr];have hc:=zv0 s p hb;generalize (Utf8.decode s p).1=C at *;rw[zq6 C hc];unfold Lib.runeCells Lib.byteCells;have w: ∀n:Nat,n<256->((UInt8.ofNat n).toNat:Int)=n:=fun n hn=>by rw[UInt8.toNat_ofNat_of_lt' (by simpa using hn)]
 by_cases h1:C<128
 ·rw[if_pos h1,Lib.encodeRuneZ_one (by omega) (by omega)];simp only[List.map_cons,List.map_nil];rw[w _ (by omega)]
 ·rw[if_neg h1];by_cases h2:C<2048
  ·rw[if_pos h2,Lib.encodeRuneZ_two (by omega) (by omega)];simp only[List.map_cons,List.map_nil];rw[w _ (by omega),w _ (by omega)]
   congr 2<;>omega
  ·rw[if_neg h2];by_cases h3:C<65536
   ·rw[if_pos h3,Lib.encodeRuneZ_three (by omega)];simp only[List.map_cons,List.map_nil];rw[w _ (by omega),w _ (by omega),w _ (by omega)];simp only[List.cons.injEq,Value.int.injEq,true_and,and_true];omega
   ·rw[if_neg h3,Lib.encodeRuneZ_four (by omega) (by omega)];simp only[List.map_cons,List.map_nil];rw[w _ (by omega),w _ (by omega),w _ (by omega),w _ (by omega)];simp only[List.cons.injEq,Value.int.injEq,true_and,and_true];omega
def Bld(B b:Nat)(l:Bs)(w:World):Prop:=Lib.IsBuilderF 98 5 B b (Lib.byteCells l) w
def Wrote(B b:Nat)(l:Bs)(w w':World):Prop:=Bld B b l w'/\Below B w w'/\Lib.OthersKept 5 (some b) w w'
theorem Wrote.trans {B b:Nat} {l l':Bs} {w w1 w2:World} (h:Wrote B b l w w1)(h':Wrote B b l' w1 w2):Wrote B b l' w w2:=⟨h'.1,h.2.1.trans h'.2.1,h.2.2.trans h'.2.2⟩
theorem zl3(a b:Bs):Lib.byteCells (a++b)=Lib.byteCells a++Lib.byteCells b:=by simp[Lib.byteCells]
def zv2(B b:Nat)(l:Bs)(w:World)(e:Ending)(w':World):Prop:=e= .returned (.tuple #[])/\Wrote B b l w w'
theorem Bld.below {B b:Nat} {l:Bs} {w w':World} (h:Bld B b l w)(hb:Below w.heap.size w w'):Bld B b l w':=by
 have one: ∀p,Lib.BuilderAtF 98 5 B b p (Lib.byteCells l) w->Lib.BuilderAtF 98 5 B b p (Lib.byteCells l) w':=by
  rintro p ⟨hB,v,hv,hown,hne⟩;have hlt:=(Array.getElem?_eq_some_iff.1 hv).1;refine⟨hB,v,(hb.block b hlt).trans hv,⟨hown.1,?_⟩,hne⟩;rcases hown.2 with hn|⟨g,cap,cur,fz,hv,hbg,hg,rest⟩
  ·exact .inl hn
  ·exact .inr ⟨g,cap,cur,fz,hv,hbg,(hb.block g (Array.getElem?_eq_some_iff.1 hg).1).trans hg,rest⟩
 exact h.elim (fun x=> .inl (one _ x)) (fun x=> .inr (one _ x))
theorem Bld.lt {B b:Nat} {l:Bs} {w:World} (h:Bld B b l w):B<=b/\b<w.heap.size:=by
 rcases h with ⟨hB,v,hv,_⟩|⟨hB,v,hv,_⟩
 all_goals exact⟨hB,(Array.getElem?_eq_some_iff.1 hv).1⟩
theorem wbyte(B b:Nat)(l:Bs)(c:UInt8)(w:World)(h:Bld B b l w)(hl:l.length+1<=140737488355328)(hB:B<=w.heap.size):
 Calls Tryz.prog 99 #[.pointer (some ⟨b,0,none⟩),.int .u8 (c.toNat:Int)] w fun e w'=>e= .returned .nilIface/\Wrote B b (l++[c]) w w':=by
 refine(Tryz.Builder_WriteByte_k B b (Lib.byteCells l) (c.toNat:Int) w h (by rw[Lib.byteCells_length];exact hl) hB).mono ?_;rintro e w' ⟨rfl,h1,h2,h3⟩;refine⟨rfl,.inr ?_,h2,h3⟩;rw[zl3];exact h1
theorem wstring(B b:Nat)(l t:Bs)(w:World)(h:Bld B b l w)(hl:l.length+t.length<=140737488355328)(hB:B<=w.heap.size):
 Calls Tryz.prog 91 #[.pointer (some ⟨b,0,none⟩),.string (st t)] w fun e w'=>(∃n,e= .returned (.tuple #[.int .i64 n,.nilIface]))/\Wrote B b (l++t) w w':=by
 refine(Tryz.Builder_WriteString_k B b (Lib.byteCells l) (st t) w h (by rw[Lib.byteCells_length,za8];exact hl) hB).mono ?_;rintro e w' ⟨rfl,h1,h2,h3⟩;refine⟨⟨_,rfl⟩,.inr ?_,h2,h3⟩;rw[zl3];exact h1
theorem wrune(B b:Nat)(l t:Bs)(r:Int)(w:World)(hr0:-2147483648<=r)(hr1:r<=2147483647)(ht:Lib.runeCells r=Lib.byteCells t)(h:Bld B b l w)(hl:l.length+4<=140737488355328)(hB:B<=w.heap.size):
 Calls Tryz.prog 92 #[.pointer (some ⟨b,0,none⟩),.int .i32 r] w fun e w'=>(∃n,e= .returned (.tuple #[.int .i64 n,.nilIface]))/\Wrote B b (l++t) w w':=by
 refine(Tryz.Builder_WriteRune_k B b (Lib.byteCells l) r hr0 hr1 w h (by rw[Lib.byteCells_length];exact hl) hB).mono ?_;rintro e w' ⟨rfl,h1,h2,h3⟩;refine⟨⟨_,rfl⟩,.inr ?_,h2,h3⟩;rw[zl3,←ht];exact h1
end Go.Proofs.YtkafjblfjdpdaaaGreatDoor
namespace Go.Proofs.YtkafjblfjdpdaaaGreatDoor
def decM(t:Bs):Bool:=decide ((zb3 t).2=0)&&decide (zk9 (zb3 t).1=t)
def holeM(t:Bs):Bool:=decM t&&((intM (zb3 t).1).2&&decide (0<=(intM (zb3 t).1).1))
def zf9(ks:List Bs)(n:Nat):Bool:=decide (ks.length=n)&&(decide (ks.length<=4096)&&(ks.all (fun k=>(valid (st k)).2)&&decide ks.Nodup))
def zh7(k:Int)(t:Bs):Bool:=
 if k=1 then decide (t=[])
 else if k=2 then decide (t=[116,114,117,101])||decide (t=[102,97,108,115,101])
 else if k=3 then decM t
 else if k=4 then(valid (st t)).2
 else if k=7 then holeM t
 else false
def zm8(v:Vl):Bool:=
 if v.k=5 then decide (v.t=[])&&decide (v.ks=[])
 else if v.k=6 then decide (v.t=[])&&zf9 v.ks v.is.length
 else(decide (v.ks=[])&&decide (v.is=[]))&&zh7 v.k v.t
def zP1(v:Vl):Bool:=decide (v.size<=4096)&&(decide (v.depth<=32)&&v.allB zm8)
def zg2(v:Vl):Bool:=decide (v.size<=4096)&&(decide (v.depth<=32)&&v.allB (fun x=>zm8 x&&decide (x.k≠7)))
abbrev cmpB:Bs->Bs->Int:=Lib.compareBytes
def numT(t:Bs):Dec:=(zb3 t).1
mutual
def cmpV:Vl->Vl->Int
 | .mk k t ks is,w=>
   if k≠w.k then(if k<w.k then -1 else 1)
   else if k=3 then compareM (numT t) (numT w.t)
   else if k=5 then cmpL is w.is
   else if k=6 then thenM (lexM cmpB ks w.ks) (cmpL is w.is)
   else cmpB t w.t
def cmpL:List Vl->List Vl->Int
 | [],[]=>0
 | [],_::_=>-1
 |_::_,[]=>1
 |x::a,y::b=>if cmpV x y≠0 then cmpV x y else cmpL a b
end
def bodyV(k:Int)(v w:Vl):Int:=
 if k=3 then compareM (numT v.t) (numT w.t)
 else if k=5 then lexM cmpV v.is w.is
 else if k=6 then thenM (lexM cmpB v.ks w.ks) (lexM cmpV v.is w.is)
 else cmpB v.t w.t
mutual
def zN8:Vl->Vl
 | .mk k t ks is=>if k=6 then .mk k t ((isort cmpB (ks.zip (sortL is))).map (·.1)) ((isort cmpB (ks.zip (sortL is))).map (·.2)) else .mk k t [] (sortL is)
def sortL:List Vl->List Vl
 | []=> []
 |v::l=>zN8 v::sortL l
end
def compM(a b:Vl):Int:=
 if zP1 a=true then(if zP1 b=true then cmpV (zN8 a) (zN8 b) else 1)
 else(if zP1 b=true then -1 else 0)
def sameM(a b:Vl):Bool:=zP1 a&&(zP1 b&&decide (cmpV (zN8 a) (zN8 b)=0))
end Go.Proofs.YtkafjblfjdpdaaaGreatDoor
namespace Go.Proofs.YtkafjblfjdpdaaaGreatDoor
structure ByKey(ks:List Bs)(n:Nat)(x:List Nat):Prop where
 perm:x.Perm (List.range n)
 sorted:x.Pairwise (fun i j=>cmpB (keyAt ks i) (keyAt ks j)<0)
theorem ByKey.lt {ks:List Bs} {n:Nat} {x:List Nat} (h:ByKey ks n x): ∀i∈x,i<n:=fun _i hi=>List.mem_range.1 (h.perm.mem_iff.1 hi)
theorem ByKey.len {ks:List Bs} {n:Nat} {x:List Nat} (h:ByKey ks n x):x.length=n:=by rw[h.perm.length_eq,List.length_range]
def cfK(ks:List Bs)(n:Nat)(i j:Fin n):Int:=cmpB (keyAt ks i.val) (keyAt ks j.val)
end Go.Proofs.YtkafjblfjdpdaaaGreatDoor
