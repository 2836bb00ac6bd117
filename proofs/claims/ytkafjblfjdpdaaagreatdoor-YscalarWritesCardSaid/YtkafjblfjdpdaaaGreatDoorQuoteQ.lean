/-
  PLAIN MATHEMATICS: what is read is in range.
  WALKS: rules.further and its two closures.
  WALKS: rules.Match, whole.
  RULES in memory; WALKS: pointer.Right, rules.Right, rules.Find.
  WALKS: two rows of texts beside each other (the document's Compare, Same of paths); is a row short? (cut out of OrR and OrT)
  WALK: pointer.Index: a step as a number.
  WALK: pointer.below: the number of the item to which a step leads.
  WALK: the iterator of pointer.nodes: from a tree on down along a path.
  WALKS: pointer.nodes, pointer.lead.
  WALK: pointer.Find.
  WALK of reading: read.below.
  WALK of reading: read.At.
  WALKS: quote.Quote.
-/
import Derived.Test.YtkafjblfjdpdaaaGreatDoorRde
import Derived.Test.YtkafjblfjdpdaaaGreatDoorVrC
import Derived.Test.YtkafjblfjdpdaaaGreatDoorShelf
import Derived.Test.YtkafjblfjdpdaaaGreatDoorBas
import Derived.Laws.OwnMore
import Derived.Deep.LoopGhost
import Derived.Deep.CutRange
import Derived.Deep.RegionHeld3
import Derived.Deep.RegionWith
import Derived.Test.YtkafjblfjdpdaaaGreatDoorVlBC
import Derived.Test.YtkafjblfjdpdaaaGreatDoorNumKW
import Derived.Lib.Atoi
import Derived.Test.YtkafjblfjdpdaaaGreatDoorVtUB
import Derived.BigQuiet
import Derived.Test.YtkafjblfjdpdaaaGreatDoorVtNT
import Derived.Test.YtkafjblfjdpdaaaGreatDoorQuoteW
namespace Go.Proofs.YtkafjblfjdpdaaaGreatDoor
open Go.RowKit
theorem Rv.rngL {s:ByteArray} {ns:List JN} (hs:s.size≤65536) {d k:Nat} {v:Vl} {c:Nat} (h:Rv s ns d k v c):v.All (fun x=>Vl.Rng x∧Lim x):=by
 have hkey: ∀a b,(keyTx s a b).length≤1048576:=fun a b=>by
  have h1:=unq_len (s.extract a b)
  rw[ByteArray.size_extract]at h1
  show(unquoteM (s.extract a b)).1.length≤1048576
  omega
 have hit: ∀(vs:List Vl),(∀i,i<vs.length→(vs.getD i zV).All (fun x=>Vl.Rng x∧Lim x))→ ∀x∈vs,x.All (fun x=>Vl.Rng x∧Lim x):=fun vs h x hx=>by
  obtain⟨i,hi,rfl⟩:=List.getElem_of_mem hx
  have:=h i hi
  rwa [getD_at _ _ hi]at this
 induction h with
 | @leaf d k x h1 h2 h3=>
   obtain⟨t,ht,hv⟩:=leaf_text h2
   rw[hv]
   obtain⟨ha,hb,_,_,_,hkd⟩:=h2
   have hx:(s.extract x.a x.b).size≤65536:=by rw[ByteArray.size_extract];omega
   have htl:t.length≤1000000:=by
    rcases ht with ⟨_,rfl⟩|⟨_,rfl⟩|⟨_,h1,rfl⟩|⟨_,h1,rfl⟩
    ·exact Nat.zero_le _
    ·rw[Array.length_toList];exact Nat.le_trans hx (by decide)
    ·have hpr:=parseM_right (l:=(s.extract x.a x.b).data.toList) (m:=(parseM (s.extract x.a x.b).data.toList).1) (by rw[←h1])
     have hbd:=right_bd (n:=(parseM (s.extract x.a x.b).data.toList).1.neg) (D:=(parseM (s.extract x.a x.b).data.toList).1.digits) (E:=(parseM (s.extract x.a x.b).data.toList).1.exp) hpr
     have:=textM_lenV (parseM (s.extract x.a x.b).data.toList).1 ⟨by omega,by omega⟩
     omega
    ·have:=unq_len (s.extract x.a x.b)
     omega
   exact .mk _ _ _ _ ⟨⟨⟨by show(-9223372036854775808:Int)≤(x.kd:Int);omega,by show(x.kd:Int)≤9223372036854775807;omega⟩,by show t.length≤maxLen;unfold maxLen;omega,fun y hy=>by cases hy⟩,by show t.length≤1048576;omega,fun y hy=>by cases hy⟩ (fun y hy=>by cases hy)
 | @arr d k x vs cs h1 h2 h3 h4 h5 h6 ih=>
   exact .mk _ _ _ _ ⟨⟨⟨by show(-9223372036854775808:Int)≤5;decide,by show(5:Int)≤9223372036854775807;decide⟩,Nat.zero_le _,fun y hy=>by cases hy⟩,Nat.zero_le _,fun y hy=>by cases hy⟩ (hit vs (fun i hi=>ih i (by omega)))
 | @obj d k x ks vs cs h1 h2 h3 h4 h5 h6 h7 h8 h9 ih=>
   have hkk: ∀y∈ks,y.length≤1048576:=fun y hy=>by
    obtain⟨i,hi,rfl⟩:=List.getElem_of_mem hy
    have hi':i<ks.length:=hi
    obtain⟨y,_,_,h12⟩:=h8 i (by omega)
    rw[getD_at _ _ hi']at h12
    rw[h12];exact hkey _ _
   exact .mk _ _ _ _ ⟨⟨⟨by show(-9223372036854775808:Int)≤6;decide,by show(6:Int)≤9223372036854775807;decide⟩,Nat.zero_le _,fun y hy=>Nat.le_trans (hkk y hy) (by decide)⟩,Nat.zero_le _,hkk⟩ (hit vs (fun i hi=>ih i (by omega)))
theorem Rv.rng {s:ByteArray} {ns:List JN} (hs:s.size≤65536) {d k:Nat} {v:Vl} {c:Nat} (h:Rv s ns d k v c):v.All Vl.Rng:=(h.rngL hs).mono (fun _ h=>h.1)
theorem Rv.lim {s:ByteArray} {ns:List JN} (hs:s.size≤65536) {d k:Nat} {v:Vl} {c:Nat} (h:Rv s ns d k v c):v.All Lim:=(h.rngL hs).mono (fun _ h=>h.2)
end Go.Proofs.YtkafjblfjdpdaaaGreatDoor
namespace Go.Proofs.YtkafjblfjdpdaaaGreatDoor
open Go.RowKit
def bC(l:List Bool):Array Value:=(l.map Value.bool).toArray
def StepPost(W:World)(n:Nat)(l:List Bool)(e:Ending)(W':World):Prop:=(∃g',e= .returned (.slice (some ⟨g',0,none⟩) n n)∧Whole W' g' 4 (bC l))∧Below W.heap.size W W'
def FurPost(W:World)(x:Bs)(r:SRow)(e:Ending)(W':World):Prop:= ∃F caps,e= .returned (.func (.func F) #[] caps)∧Below W.heap.size W W'∧(∀xs w,(callFunc F xs).run Tryz.prog w= .ok (.enter F xs) w)∧
 ∀WW,Below W'.heap.size W' WW→ ∀g f,f.length=r.l.length+1→r.l.length≤1000→Whole WW g 4 (bC f)→Calls Tryz.prog F (#[.slice (some ⟨g,0,none⟩) (r.l.length+1) (r.l.length+1)]++caps) WW (StepPost WW (r.l.length+1) (rowM r.l x f))
def MatchPost(p l:List Bs)(W:World)(e:Ending)(W':World):Prop:=e= .returned (.bool (matchM p l))∧Below W.heap.size W W'
def pgoodB(p:List Bs):Bool:=decide (p.length≤64)&&p.all fun x=>(valid (st x)).2
structure RU where
 p:SRow
 k:Bs
def RU.m(r:RU):List Bs×Bs:=(r.p.l,r.k)
def rgoodB(l:List RU):Bool:=decide (l.length≤32)&&l.all fun r=>(valid (st r.k)).2&&pgoodB r.p.l
def RulesIn(w:World)(o:Option Addr)(l:List RU):Prop:= ∀i (h:i<l.length),∃b f,o=some ⟨b,f,none⟩∧w.cell? ⟨b,f+i*2,none⟩=some l[i].p.v∧w.cell? ⟨b,f+i*2+1,none⟩=some (.string (st l[i].k))∧l[i].p.ok w
theorem RulesIn.grow {w w':World} {o:Option Addr} {l:List RU} (h:RulesIn w o l)(hb:Below w.heap.size w w'):RulesIn w' o l:=fun i hi=>by
 obtain⟨b,f,h1,h2,h3,h4⟩:=h i hi
 exact⟨b,f,h1,(hb.cell (p:=⟨b,f+i*2,none⟩) (cell_blk h2)).trans h2,(hb.cell (p:=⟨b,f+i*2+1,none⟩) (cell_blk h3)).trans h3,h4.grow hb⟩
def Room(l:List Bs):Prop:= ∀x∈l,x.length≤maxLen
structure RulesOk(w:World)(o:Option Addr)(cap:Nat)(l:List RU):Prop where
 le:l.length≤cap
 cp:cap≤maxLen
 rd:RulesIn w o l
 km: ∀r∈l,r.k.length≤maxLen∧Room r.p.l
theorem RulesOk.grow {w w':World} {o:Option Addr} {cap:Nat} {l:List RU} (h:RulesOk w o cap l)(hb:Below w.heap.size w w'):RulesOk w' o cap l:=⟨h.le,h.cp,h.rd.grow hb,h.km⟩
def BoolPost(v:Bool)(W:World)(e:Ending)(W':World):Prop:=e= .returned (.bool v)∧Below W.heap.size W W'
def CompPost(la lb:List Bs)(w:World)(e:Ending)(w':World):Prop:=(∃c:Int,e= .returned (.int .i64 c)∧(c=0↔la=lb))∧Below w.heap.size w w'
structure ShortL(l:List Bs):Prop where
 len:l.length≤200
 each: ∀x∈l,x.length≤1024
def ShortPost(l:List Bs)(w:World)(e:Ending)(w':World):Prop:=(∃v:Bool,e= .returned (.bool v)∧(v=true→ShortL l))∧w'=w
end Go.Proofs.YtkafjblfjdpdaaaGreatDoor
namespace Go.Proofs.YtkafjblfjdpdaaaGreatDoor
open Go.RowKit
def digV(s:ByteArray)(pos:Nat):Prop:=48≤byt s pos∧byt s pos≤57
def indexM(l:Bs):Option Nat:=if l=[]∨9<l.length∨(l.head?=some 48∧l≠ [48]) then none else Lib.decNat l
def IdxPost(l:Bs)(w:World)(e:Ending)(w':World):Prop:=e= .returned (.tuple #[.int .i64 (((indexM l).getD 0:Nat):Int),.bool (indexM l).isSome])∧Below w.heap.size w w'
theorem bytT(s:ByteArray)(k:Nat)(hk:k<s.data.toList.length):(s.data.toList[k]).toNat=byt s k:=by
 rw[byt_eq s k (by rw[Array.length_toList]at hk;exact hk)];rfl
def belowM(v:Vl)(s:Bs):Int×Bool:=
 if v.k=6 then(ixI v.ks s,decide (0≤ixI v.ks s))
 else if v.k=5 then((((indexM s).getD 0:Nat):Int),(indexM s).isSome&&decide ((indexM s).getD 0<v.is.length))
 else(0,false)
def BlwPost(r:Int×Bool)(w:World)(e:Ending)(w':World):Prop:=e= .returned (.tuple #[.int .i64 r.1,.bool r.2])∧Below w.heap.size w w'
end Go.Proofs.YtkafjblfjdpdaaaGreatDoor
namespace Go.Proofs.YtkafjblfjdpdaaaGreatDoor
open Go.RowKit Go.Shelf
attribute [local go_sem] Oper.semAt_some
def nodesM:List Bs→Nat×Nat×Vt→List (Nat×Nat×Vt)
 | [],y=> [y]
 |s::r,y=>y::(if (belowM y.2.2.m s).2=true then(match y.2.2.o,y.2.2.is[(belowM y.2.2.m s).1.toNat]? with
  |some a,some z=>nodesM r (a.block,a.off+(belowM y.2.2.m s).1.toNat * 4,z)
  |_,_=> []) else [])
def KpN(n₀ b1 b2:Nat)(A B:World):Prop:=Below n₀ A B∧B.heap[b1]?=A.heap[b1]?∧B.heap[b2]?=A.heap[b2]?
end Go.Proofs.YtkafjblfjdpdaaaGreatDoor
namespace Go.Proofs.YtkafjblfjdpdaaaGreatDoor
open Go.RowKit Go.Shelf
attribute [local go_sem] Oper.semAt_some
def lastP(v:Value)(l:List (Nat×Nat×Vt)):Value:=match l.getLast? with
 |some y=> .pointer (some ⟨y.1,y.2.1,none⟩)
 |none=>v
def LeadPost(LL:List (Nat×Nat×Vt))(n:Nat)(v:Value)(w:World)(e:Ending)(w':World):Prop:=e= .returned (.tuple #[lastP v LL,.bool (decide (LL.length=n+1))])∧Below w.heap.size w w'
def pgetM:List Bs→Vl→Option Vl
 | [],v=>some v
 |s::r,v=>if (belowM v s).2=true then(match v.is[(belowM v s).1.toNat]? with
  |some z=>pgetM r z
  |none=>none) else none
def pfindM(v:Vl)(path:List Bs):Option Vl:=if pgoodB path=true∧openM v=true then pgetM path v else none
end Go.Proofs.YtkafjblfjdpdaaaGreatDoor
namespace Go.Proofs.YtkafjblfjdpdaaaGreatDoor
open Go.RowKit
def kidAt(kd:Nat)(ks:List Bs)(kids:List Nat)(p:Bs):Option Nat:=
 if kd=5 then(indexM p).bind (fun n=>kids[n]?) else if kd=6 then(ixOf ks p).bind (fun n=>kids[n]?) else none
def KidAtPost(o:Option Nat)(W:World)(e:Ending)(W':World):Prop:=e= .returned (.tuple #[.int .i64 ((o.getD 0:Nat):Int),.bool o.isSome])∧Below W.heap.size W W'
def RLI(s:ByteArray)(gn gN n cN:Nat)(b kl ck j kid:Nat)(name:Bs)(i:Nat)(v:Value)(_ _:Nat)(_:World):Prop:=match i with
 |0=>v= .agg #[.string s,.slice (some ⟨gN,0,none⟩) n cN]
 |1=>v= .pointer (some ⟨gn,5,none⟩)
 |2=>v= .slice (some ⟨b,0,none⟩) kl ck
 |3=>v= .int .i64 (j:Int)
 |4=>v= .pointer (some ⟨b,j,none⟩)
 |5=>v= .int .i64 (kid:Int)
 |6=>v= .tuple #[.string (st name),.bool true]
 |7=>v= .tuple #[.string (st name),.bool true]
 |8=>v= .string (st name)
 |9=>v= .bool true
 |10=>v= .string (st name)
 |11=>v= .bool true
 |_=>True
def kidKs(s:ByteArray)(ns:List JN)(kids:List Nat):List Bs:=kids.map fun j=>match ns[j]? with|some y=>keyTx s y.ka y.kb|none=> []
def kidOf(s:ByteArray)(ns:List JN)(k:Nat)(p:Bs):Option Nat:=match ns[k]? with
 |none=>none
 |some x=>kidAt x.kd (kidKs s ns x.kids) x.kids p
def atM(s:ByteArray)(ns:List JN):List Bs→Nat→Option Nat
 | [],k=>some k
 |p::r,k=>(kidOf s ns k p).bind (atM s ns r)
def atP(s:ByteArray)(ns:List JN)(path:List Bs):Option Nat:=if pgoodB path=true then atM s ns path 0 else none
def RLJ(s:ByteArray)(gd gN n cN k kd na nb ka kb nk:Nat)(ok:Option Addr)(ck:Nat)(po:Option Addr)(pn pc:Nat)(p:Bs)(o:Option Nat)(i:Nat)(v:Value)(_ _:Nat)(_:World):Prop:=match i with
 |0=>v= .agg #[.string s,.slice (some ⟨gN,0,none⟩) n cN]
 |1=>v= .pointer (some ⟨gd,1,none⟩)
 |2=>v= .slice (some ⟨gN,0,none⟩) n cN
 |3=>v= .int .i64 (k:Int)
 |4=>v= .pointer (some ⟨gN,k*7,none⟩)
 |5=>v= .agg #[.int .i64 (kd:Int),.int .i64 (na:Int),.int .i64 (nb:Int),.int .i64 (ka:Int),.int .i64 (kb:Int),.slice ok nk ck,.slice po pn pc]
 |6=>v= .string (st p)
 |7=>v= .tuple #[.int .i64 ((o.getD 0:Nat):Int),.bool o.isSome]
 |8=>v= .tuple #[.int .i64 ((o.getD 0:Nat):Int),.bool o.isSome]
 |9=>v= .int .i64 ((o.getD 0:Nat):Int)
 |10=>v= .bool o.isSome
 |11=>v= .int .i64 ((o.getD 0:Nat):Int)
 |12=>v= .bool o.isSome
 |_=>True
end Go.Proofs.YtkafjblfjdpdaaaGreatDoor
namespace Go.Proofs.YtkafjblfjdpdaaaGreatDoor
open Go.RowKit
theorem escOf_qb(c:Nat)(x:UInt8)(h:c<128)(hc:escOf (c:Int)=some x):qb (UInt8.ofNat c)=[92,x]:=by
 have key: ∀c:Nat,c<128→ ∀x,escOf (c:Int)=some x→qb (UInt8.ofNat c)=[92,x]:=by decide+kernel
 exact key c h x hc
theorem escOf_hex(c:Nat)(h:c<32)(hc:escOf (c:Int)=none):qb (UInt8.ofNat c)=[92,117,48,48,hexd (c/16),hexd (c%16)]:=by
 have key: ∀c:Nat,c<32→escOf (c:Int)=none→qb (UInt8.ofNat c)=[92,117,48,48,hexd (c/16),hexd (c%16)]:=by decide+kernel
 exact key c h hc
theorem escOf_one(c:Nat)(h0:32≤c)(h:c<128)(hc:escOf (c:Int)=none):qb (UInt8.ofNat c)=[UInt8.ofNat c]:=by
 have key: ∀c:Nat,c<128→32≤c→escOf (c:Int)=none→qb (UInt8.ofNat c)=[UInt8.ofNat c]:=by decide+kernel
 exact key c h h0 hc
theorem escOf_high(c:Int)(h:128≤c):escOf c=none:=by
 unfold escOf
 repeat' split
 all_goals first|rfl|omega
def partAt(s:ByteArray)(p:Nat):Bs:=if byt s p<128 then qb (UInt8.ofNat (byt s p)) else runeAt s p
theorem write_at(s:ByteArray)(p:Nat)(hp:p<s.size)(hbad: ¬bad s p)(B b:Nat)(l:Bs)(w:World)(h:Bld B b l w)(hl:l.length+6≤140737488355328)(hB:B≤w.heap.size):
 Calls Tryz.prog 100 #[.pointer (some ⟨b,0,none⟩),.int .i32 ((Utf8.decode s p).1:Int)] w (UnitPost B b (l++partAt s p) w):=by
 unfold partAt
 by_cases hlow:byt s p<128
 ·rw[if_pos hlow,dec_low s p hlow]
  simp only
  generalize byt s p=c at *
  cases he:escOf (c:Int) with
  |some x=>rw[escOf_qb c x hlow he];exact write_esc B b l c x w he h hl hB
  |none=>
   by_cases h32:c<32
   ·rw[escOf_hex c h32 he]
    have hx:=hex_is (c:Int) (by omega) (by omega) he
    rw[show (c:Int).toNat=c by omega]at hx
    exact write_hex B b l c _ _ w hx h hl hB
   ·rw[escOf_one c (by omega) hlow he]
    refine write_rune B b l _ c w (by omega) (by omega) he ?_ h hl hB
    unfold Lib.runeCells Lib.byteCells
    rw[Lib.encodeRuneZ_one (by omega) (by omega)]
    simp only[List.map_cons,List.map_nil]
    rw[UInt8.toNat_ofNat_of_lt' (show c<256 by omega)]
 ·rw[if_neg hlow]
  have hh:=dec_high s p (by omega)
  have hf:=dec_fine s p hbad
  exact write_rune B b l _ _ w (by omega) (by omega) (escOf_high _ (by omega)) (runeCells_at s p hp hbad) h hl hB
theorem quoteB_part(s:ByteArray)(p:Nat)(h:p<s.size):quoteB (s.data.toList.take (p+wd s p))=quoteB (s.data.toList.take p)++partAt s p:=quoteB_rune s p h
theorem take_le(s:ByteArray)(p:Nat):(34::quoteB (s.data.toList.take p)).length≤6*p+1:=by
 have h1:=quoteB_len (s.data.toList.take p)
 have h2:(s.data.toList.take p).length≤p:=List.length_take_le _ _
 rw[List.length_cons]
 omega
set_option maxHeartbeats 1000000 in
set_option maxRecDepth 1000000 in
theorem quote_any(s:ByteArray)(w:World)(hT:tabs w)(hs:s.size≤1099511627776):
 Calls Tryz.prog 55 #[.string s] w fun e w'=>e= .returned (.tuple #[.string (st (quoteM s).1),.int .i64 (quoteM s).2])∧Below w.heap.size w w':=by
 have hv:=valid_any s w hT (by unfold maxLen;omega)
 have hm: ∀b,(valid s).2=b→quoteM s=if b=true then(34::quoteB s.data.toList++[34],0) else([],2):=fun b hb=>by unfold quoteM;rw[hb]
 generalize quoteM s=Q at *
 have hvv:(valid s).2=true→(vld s s.size 0).2=true:=fun h=>h
 generalize valid s=V at *
 obtain⟨vp,vo⟩:=V
 have HM:=hq hm
 have HV:=hq hv
 have HVV:=hq hvv
 clear hm hv hvv hT
 go_enter Tryz.func55,Tryz.ntmps55
 go_wp2_with fail
 refine HV.o.mono ?_
 rintro e w1 ⟨rfl,hb⟩
 cases vo with
 |false=>
  have HN:=hq (HM.o false rfl)
  clear HM HV HVV
  go_wp2_with fail
  go_ret2
  exact⟨by rw[HN.o];rfl,hb⟩
 |true=>
  have HN:Hq (Q=(34::quoteB s.data.toList++[34],0)):=hq (HM.o true rfl)
  have HVF:Hq ((vld s s.size 0).2=true):=hq (HVV.o rfl)
  clear HM HV HVV
  have hsz:=hb.size
  have hbd:Bld w1.heap.size w1.heap.size [] (w1.alloc (.cells #[.pointer none,.slice none 0 0] 98)):=Lib.IsBuilderF.of (Lib.fresh_isBuilder _ _ _)
  have HBD:=hq hbd
  have hb2:Below w.heap.size w (w1.alloc (.cells #[.pointer none,.slice none 0 0] 98)):=hb.alloc hsz _
  clear hbd
  go_wp2_with fail
  refine(wbyte w1.heap.size w1.heap.size [] 34 _ HBD.o (by simp) (by rw[World.size_alloc];omega)).mono ?_
  rintro e w2 ⟨rfl,hw2⟩
  have hb3:Below w.heap.size w w2:=hb2.trans (hw2.2.1.mono hsz)
  have hlt:w1.heap.size<w2.heap.size:=by
   have:=hw2.2.1.size
   obtain⟨_,v,hbv,_⟩|⟨_,v,hbv,_⟩:=hw2.1<;>exact (Array.getElem?_eq_some_iff.1 hbv).1
  have HBD2:Hq (Bld w1.heap.size w1.heap.size [34] w2):=hq hw2.1
  clear hw2 hb2 HBD hb
  go_wp2_with fail
  have hbI:=Lib.IsBuilderF.alloc HBD2.o (.stringIter s 0)
  have HBI:Hq (Bld w1.heap.size w1.heap.size (34::quoteB (s.data.toList.take 0)) (w2.iter s 0)):=hq hbI
  clear hbI HBD2
  have hb4:Below w.heap.size w (w2.iter s 0):=hb3.alloc (Nat.le_trans hsz (Nat.le_of_lt hlt)) _
  go_loopw [] (fun wr=> ∃(pos f:Nat),pos≤s.size∧wr.heap[w2.heap.size]?=some (.stringIter s pos)∧Hq (Bld w1.heap.size w1.heap.size (34::quoteB (s.data.toList.take pos)) wr)∧Below w.heap.size w wr∧Hq ((vld s f pos).2=true)∧s.size≤pos+f)
   (fun wr=>s.size-wr.iterPos w2.heap.size)
  case atStart=>exact⟨0,s.size,by omega,World.iter_heap w2 s 0,HBI,hb4,HVF,by omega⟩
  case round=>
   obtain⟨pos,f,hps,hit,hbd,hbw,hvl,hf⟩:=hrel
   clear hb4 HBI HVF hb3
   have hlt2:w2.heap.size<wr.heap.size:=(Array.getElem?_eq_some_iff.1 hit).1
   have hlen:=take_le s pos
   by_cases hp:pos<s.size
   ·have hnx: ∀ty,(Instr.next (.pointer (some ⟨w2.heap.size,0,none⟩)) true ty).run Tryz.prog wr=_:=fun ty=>Lib.run_next_any_at wr w2.heap.size s pos ty hit hp
    obtain⟨f,rfl⟩: ∃g,f=g+1:=⟨f-1,by omega⟩
    have hnb: ¬bad s pos:=fun h=>by
     have:=hvl.o
     rw[vld_bad s f pos hp h]at this
     cases this
    have HVN:Hq ((vld s f (pos+wd s pos)).2=true):=hq (by rw[←vld_step s f pos hp hnb];exact hvl.o)
    have hwp:=wd_pos s pos
    have hwl:=wd_le s pos hp
    have hit2:=Lib.iterAt_heap wr w2.heap.size s pos (pos+(Utf8.decode s pos).2) hit
    have hb2:=Lib.below_iterAt hbw (k:=w2.heap.size) (by omega) s (pos+(Utf8.decode s pos).2)
    have hbd2:Bld w1.heap.size w1.heap.size (34::quoteB (s.data.toList.take pos)) (wr.iterAt w2.heap.size s (pos+(Utf8.decode s pos).2)):=Lib.IsBuilderF.iterAt hbd.o hit _
    have hsz2:w1.heap.size≤(wr.iterAt w2.heap.size s (pos+(Utf8.decode s pos).2)).heap.size:=by rw[Lib.iterAt_size];omega
    have hcall:=write_at s pos hp hnb w1.heap.size w1.heap.size _ _ hbd2 (by omega) hsz2
    have HC:=hq hcall
    have HIT:=hq hit2
    have HB2:=hq hb2
    have HPART:Hq (34::quoteB (s.data.toList.take pos)++partAt s pos=34::quoteB (s.data.toList.take (pos+wd s pos))):=hq (by rw[quoteB_part s pos hp];rfl)
    have HWD:Hq (pos+wd s pos=pos+(Utf8.decode s pos).2):=hq rfl
    have HST:=hq hit
    clear hcall hbd2 hnb hvl hbd hit hit2 hb2
    go_wp2_with fail
    refine HC.o.mono ?_
    rintro e w3 ⟨rfl,h3⟩
    have hit3:=Lib.OthersKept.iter h3.2.2 HIT.o (by omega)
    have hb5:Below w.heap.size w w3:=HB2.o.trans (h3.2.1.mono hsz)
    have HBD3:Hq (Bld w1.heap.size w1.heap.size (34::quoteB (s.data.toList.take (pos+wd s pos))) w3):=hq (by rw[←HPART.o];exact h3.1)
    have hmes:w3.iterPos w2.heap.size=pos+wd s pos:=by simp only[World.iterPos,hit3];rfl
    have hmes0:wr.iterPos w2.heap.size=pos:=by simp only[World.iterPos,HST.o]
    have HM3:=hq hmes
    have HM0:=hq hmes0
    clear h3 HC HPART hmes hmes0
    go_wp2_with fail
    go_roundw
    case rel=>exact⟨pos+wd s pos,f,hwl,hit3,HBD3,hb5,HVN,by omega⟩
    case measure=>rw[HM3.o,HM0.o];omega
   ·have hnx: ∀ty,(Instr.next (.pointer (some ⟨w2.heap.size,0,none⟩)) true ty).run Tryz.prog wr=_:=fun ty=>Lib.run_next_end_at wr w2.heap.size s pos ty hit hp
    obtain rfl:pos=s.size:=by omega
    have htk:s.data.toList.take s.size=s.data.toList:=List.take_of_length_le (by rw[Array.length_toList];exact Nat.le_refl _)
    rw[htk]at hbd hlen
    have HC:=hq (wbyte w1.heap.size w1.heap.size _ 34 wr hbd.o (by omega) (by omega))
    clear hvl
    go_wp2_with fail
    refine HC.o.mono ?_
    rintro e w3 ⟨rfl,h3⟩
    have hb5:Below w.heap.size w w3:=hbw.trans (h3.2.1.mono hsz)
    have hS:=Tryz.Builder_String_any_k w1.heap.size w1.heap.size _ w3 h3.1 (Nat.le_trans (by omega) h3.2.1.size)
    have HS:=hq hS
    clear hS h3 HC
    go_wp2_with fail
    refine HS.o.mono ?_
    rintro e w4 ⟨rfl,_,h5,_⟩
    have hb6:Below w.heap.size w w4:=hb5.trans (h5.mono hsz)
    clear h5 hbd
    go_wp2_with fail
    go_ret2
    exact⟨by rw[HN.o];rfl,hb6⟩
end Go.Proofs.YtkafjblfjdpdaaaGreatDoor
