/-
  WALKS: print.Compact, Canon, Pretty.
  PLAIN MATHEMATICS: a sorted value's text is as long as the value's own.
  PLAIN MATHEMATICS: one text in a line just of one value (PrintApart).
  PLAIN MATHEMATICS: what is printed is read.
  PLAIN MATHEMATICS: a text made safe for a line: no 127, no # behind a blank; a string so written is read.
  PLAIN MATHEMATICS: a value's text with any way to write strings; made safe, it is read as that value.
  PLAIN MATHEMATICS: a line of YAML, taken apart; strings in single quotes.
  PLAIN MATHEMATICS: strings in single quotes; what stands in single quotes is read, wherever it stands.
  PLAIN MATHEMATICS: what stands in one line of YAML: bare texts, what they are, what is read, what is written; what is written is read.
-/
import Derived.Test.YtkafjblfjdpdaaaGreatDoorPrM
import Derived.Test.YtkafjblfjdpdaaaGreatDoorPrA
import Derived.Test.YtkafjblfjdpdaaaGreatDoorUna
namespace Go.Proofs.YtkafjblfjdpdaaaGreatDoor
open Go.RowKit
structure Pri(x:Vt)(w:World):Prop where
 fine:Fine x w
 sht:x.m.All Sht
theorem Pri.grow {x:Vt} {w w':World} (h:Pri x w)(hb:Below w.heap.size w w'):Pri x w':=⟨h.fine.grow hb,h.sht⟩
def sortM(v:Vl):Vl:=if openM v=true then sortV v else zeroL
def NewP(g:Nat)(l:Bs)(ls:Bool)(n:Int)(w:World)(e:Ending)(w':World):Prop:=e= .returned (.tuple #[])∧Prn w.heap.size g l ls n w'∧Below w.heap.size w w'
theorem new_value(x:Vt)(ls:Bool)(n lev:Nat)(w:World)(hE:Env w)(hx:Pri x w)(hn:n≤8)(hv:lev≤32)(hr:rightM x.m=true):
 Calls Tryz.prog 89 #[.pointer (some ⟨w.heap.size,0,none⟩),x.v,.int .i64 (lev:Int)] (w.alloc (.cells #[.pointer none,.slice none 0 0,.bool ls,.int .i64 (n:Int)] 100)) (NewP w.heap.size (prB ls n lev x.m) ls (n:Int) w):=by
 obtain⟨hg,h1,h2,_⟩:=right_good hr
 have hb0:=below_alloc w (.cells #[.pointer none,.slice none 0 0,.bool ls,.int .i64 (n:Int)] 100)
 have hp:Prn w.heap.size w.heap.size [] ls (n:Int) (w.alloc (.cells #[.pointer none,.slice none 0 0,.bool ls,.int .i64 (n:Int)] 100)):= .inl ⟨Nat.le_refl _,.slice none 0 0,heap_alloc_new w _,World.ownsRow_nil _ _ _ _⟩
 refine(pvalue w.heap.size ls n (by omega) hE.tab x [] lev _ hx.fine.ok (good_prok hg hx.sht) hb0 hp (by omega) (by have:=prB_fits hr hx.sht ls hn hv;simpa using this)).mono ?_
 rintro e w' ⟨rfl,h3⟩
 exact⟨rfl,h3.1,hb0.trans h3.2.1⟩
set_option maxHeartbeats 8000000 in
set_option maxRecDepth 1000000 in
theorem pcompact(x:Vt)(w:World)(hE:Env w)(hx:Pri x w):Calls Tryz.prog 48 #[x.v] w (TextP (compactM x.m) w):=by
 have HR:=hq (fun W (h:Below w.heap.size w W)=>vright_any x W (hE.grow h) (hx.fine.ok.grow h) hx.fine.lim (by have:=hx.fine.sz;omega))
 have HV:=hq (fun (hr:rightM x.m=true) W (h:Below w.heap.size w W)=>new_value x false 0 0 W (hE.grow h) (hx.grow h) (by omega) (by omega) hr)
 have HN:=hq (fun (hr:rightM x.m=true)=>prB_ne false 0 0 hr)
 have HCM:Hq (compactM x.m=if rightM x.m=true then(prB false 0 0 x.m,0) else([],1)):=hq rfl
 have HP:Hq (∀(r:Bs×Int) W',compactM x.m=r→Below w.heap.size w W'→TextP (compactM x.m) w (.returned (.tuple #[.string (st r.1),.int .i64 r.2])) W'):=hq (fun r W' h1 h2=>by rw[h1];exact⟨rfl,h2⟩)
 generalize TextP (compactM x.m) w=PP at *
 generalize compactM x.m=CM at *
 generalize prB false 0 0 x.m=PB at *
 clear hE hx
 obtain⟨k,t,⟨ko,kc,kl⟩,o,c,is⟩:=x
 rw[Vt.v_mk']at *
 generalize (Vt.mk k t ⟨ko,kc,kl⟩ o c is).m=X at *
 have hb0:=below_alloc w (.cells #[.int .i64 k,.string (st t),.slice ko kl.length kc,.slice o is.length c] 26)
 have HB0:=hq hb0
 have HW0:=hq (Whole.made w 26 #[.int .i64 k,.string (st t),.slice ko kl.length kc,.slice o is.length c])
 clear hb0
 obtain⟨c0,c1,c2,c3⟩:=four_cells HW0.o
 go_enter Tryz.func48,Tryz.ntmps48
 go_wp2_with fail
 generalize w.heap.size=g at c0 c1 c2 c3 HW0
 generalize (w.alloc (.cells #[.int .i64 k,.string (st t),.slice ko kl.length kc,.slice o is.length c] 26))=V0 at *
 refine(HR.o V0 HB0.o).mono ?_
 rintro e w1 ⟨rfl,hb1⟩
 have HB1:=hq (below_trans HB0.o hb1)
 have HW1:=hq (HW0.o.grow hb1)
 obtain⟨d0,d1,d2,d3⟩:=four_cells HW1.o
 clear HR hb1 c0 c1 c2 c3
 by_cases hr:rightM X=true
 case neg=>
  have hf:rightM X=false:=by simpa using hr
  have HU:=hq (HP.o ([],1) w1 (by rw[HCM.o,if_neg hr]) HB1.o)
  rw[hf]
  clear HP HCM HV HN hr hf
  go_wp2_with fail
  first
   |exact HU.o
   |(go_ret
     exact HU.o)
 case pos=>
  have HE:Hq (CM=(PB,0)):=hq (by rw[HCM.o,if_pos hr])
  have HC:=hq (HV.o hr w1 HB1.o)
  have HNE:=hq (HN.o hr)
  rw[hr]
  clear HV HN HCM hr
  have h00:((0:Nat):Int)=0:=rfl
  rw[h00]at HC
  obtain⟨e0,e1,e2,e3⟩:=four_cells (HW1.o.alloc (.cells #[.pointer none,.slice none 0 0,.bool false,.int .i64 0] 100))
  clear h00
  go_wp2_with fail
  refine HC.o.mono ?_
  rintro e w2 ⟨rfl,h2,hb2⟩
  have HS:=hq (pString w1.heap.size w1.heap.size PB false 0 w2 h2 HNE.o)
  have HQ:=hq (fun W'=>HP.o (PB,0) W' HE.o)
  have HB2:=hq hb2
  clear HC HNE h2 hb2 HP HE d0 d1 d2 d3 e0 e1 e2 e3 HW1 HW0
  go_wp2_with fail
  refine HS.o.mono ?_
  rintro e w3 ⟨rfl,h3⟩
  have HU:=hq (HQ.o w3 (below_trans HB1.o (HB2.o.trans h3)))
  clear HS HQ HB2 h3
  go_wp2_with fail
  first
   |exact HU.o
   |(go_ret
     exact HU.o)
end Go.Proofs.YtkafjblfjdpdaaaGreatDoor
namespace Go.Proofs.YtkafjblfjdpdaaaGreatDoor
open Go.RowKit
end Go.Proofs.YtkafjblfjdpdaaaGreatDoor
namespace Go.Proofs.YtkafjblfjdpdaaaGreatDoor
open Go.RowKit
def Dlm(r:Bs):Prop:= ∀c t,r=c::t→c=44∨c=93∨c=125∨c=58
def numC(c:UInt8):Bool:=c==45||c==101||isDig c
def sc:Bs→Option (Bs×Bs)
 | []=>none
 | [c]=>if c=34 then some ([],[]) else none
 |c::d::l=>if c=34 then some ([],d::l) else if c=92 then(sc l).map (fun p=>(c::d::p.1,p.2)) else(sc (d::l)).map (fun p=>(c::p.1,p.2))
def hexvP(c:UInt8):Nat:=if c.toNat<58 then c.toNat-48 else c.toNat-87
def firstQ:Bs→UInt8×Bs
 | []=>(0,[])
 | [c]=>(c,[])
 |c::d::l=>if c=92 then(if d=117 then(UInt8.ofNat (hexvP (l.getD 2 0)*16+hexvP (l.getD 3 0)),l.drop 4) else(if d=98 then 8 else if d=102 then 12 else if d=110 then 10 else if d=114 then 13 else if d=116 then 9 else d,l)) else(c,d::l)
def tailB' {α:Type} (c:α→Bs)(l:List α):Bs:=l.flatMap fun x=>44::c x
structure Codes {α:Type} (c:α→Bs)(p:α→Prop):Prop where
 ne: ∀x,p x→ ∃d l,c x=d::l∧d≠93∧d≠125∧d≠44
def Rgt(v:Vl):Prop:=v.allB (fun x=>nodeM x&&decide (x.k≠7))=true
theorem Rgt.here {k:Int} {t:Bs} {ks:List Bs} {is:List Vl} (h:Rgt (.mk k t ks is)):nodeM (.mk k t ks is)=true∧k≠7:=by
 unfold Rgt at h
 simp only[Vl.allB,Bool.and_eq_true]at h
 exact⟨h.1.1,of_decide_eq_true h.1.2⟩
theorem Rgt.item {k:Int} {t:Bs} {ks:List Bs} {is:List Vl} (h:Rgt (.mk k t ks is)): ∀x∈is,Rgt x:=fun x hx=>by
 unfold Rgt at h ⊢
 simp only[Vl.allB,Bool.and_eq_true]at h
 exact Vl.allsB_iff.1 h.2 x hx
theorem Rgt.is {k:Int} {t:Bs} {ks:List Bs} {is:List Vl} (h:Rgt (.mk k t ks is)):
 (k=1∧t=[]∧ks=[]∧is=[])∨(k=2∧(t=[116,114,117,101]∨t=[102,97,108,115,101])∧ks=[]∧is=[])∨(k=3∧decM t=true∧ks=[]∧is=[])∨
 (k=4∧(valid (st t)).2=true∧ks=[]∧is=[])∨(k=5∧t=[]∧ks=[])∨(k=6∧t=[]∧ks.length=is.length∧ ∀x∈ks,(valid (st x)).2=true):=by
 obtain⟨h1,h7⟩:=h.here
 have e:nodeM (.mk k t ks is)=if k=5 then decide (t=[])&&decide (ks=[]) else if k=6 then decide (t=[])&&membersM ks is.length else(decide (ks=[])&&decide (is=[]))&&scalarM k t:=rfl
 rw[e]at h1
 by_cases k5:k=5
 ·rw[if_pos k5]at h1
  simp only[Bool.and_eq_true,decide_eq_true_eq]at h1
  exact .inr (.inr (.inr (.inr (.inl ⟨k5,h1⟩))))
 rw[if_neg k5]at h1
 by_cases k6:k=6
 ·rw[if_pos k6]at h1
  unfold membersM at h1
  simp only[Bool.and_eq_true,decide_eq_true_eq,List.all_eq_true]at h1
  exact .inr (.inr (.inr (.inr (.inr ⟨k6,h1.1,h1.2.1,h1.2.2.2.1⟩))))
 rw[if_neg k6]at h1
 simp only[Bool.and_eq_true,decide_eq_true_eq]at h1
 obtain⟨⟨h2,h3⟩,h4⟩:=h1
 unfold scalarM at h4
 by_cases k1:k=1
 ·rw[if_pos k1,decide_eq_true_eq]at h4;exact .inl ⟨k1,h4,h2,h3⟩
 rw[if_neg k1]at h4
 by_cases k2:k=2
 ·rw[if_pos k2,Bool.or_eq_true,decide_eq_true_eq,decide_eq_true_eq]at h4;exact .inr (.inl ⟨k2,h4,h2,h3⟩)
 rw[if_neg k2]at h4
 by_cases k3:k=3
 ·rw[if_pos k3]at h4;exact .inr (.inr (.inl ⟨k3,h4,h2,h3⟩))
 rw[if_neg k3]at h4
 by_cases k4:k=4
 ·rw[if_pos k4]at h4;exact .inr (.inr (.inr (.inl ⟨k4,h4,h2,h3⟩)))
 rw[if_neg k4,if_neg h7]at h4
 cases h4
def kindC(c:UInt8):Int:=if c=110 then 1 else if c=116∨c=102 then 2 else if c=34 then 4 else if c=91 then 5 else if c=123 then 6 else 3
theorem right_rgt {v:Vl} (h:rightM v=true):Rgt v:=by
 unfold rightM at h
 simp only[Bool.and_eq_true]at h
 exact h.2.2
end Go.Proofs.YtkafjblfjdpdaaaGreatDoor
namespace Go.Proofs.YtkafjblfjdpdaaaGreatDoor
open Go.RowKit
structure ValT(T:ByteArray)(d a:Nat)(l:Bs)(v:Vl)(toks:List Tok):Prop where
 nt: ∀m,NT T (a+l.length) m→NT T a (toks++m)
 hd: ∃t r,toks=t::r∧kindM t.1≠0
 go: ∀key ns r,ns.length+v.size≤4096→ ∃ns',valueM T.size (keyTx T) d (toks++r) key ns= .inr (r,ns')∧Rv T ns' d ns.length v v.size∧ns'.length=ns.length+v.size∧ ∃y,ns'[ns.length]?=some y∧y.ka=key.1∧y.kb=key.2
structure KV(T:ByteArray)(d:Nat)(ob:Bool)(q:Bs×Vl)(ns ns':List JN):Prop where
 rv:Rv T ns' d ns.length q.2 q.2.size
 ln:ns'.length=ns.length+q.2.size
 ky:ob=true→ ∃y,ns'[ns.length]?=some y∧StrOk T y.ka y.kb∧q.1=keyTx T y.ka y.kb
 at_: ∀i,i<ns.length→ns'[i]?=ns[i]?
structure KidT(T:ByteArray)(d:Nat)(ob:Bool)(a:Nat)(l:Bs)(q:Bs×Vl)(toks:List Tok):Prop where
 nt: ∀m,NT T (a+l.length) m→NT T a (toks++m)
 hd: ∃t r,toks=t::r∧t.1≠jendM ob
 go: ∀had ns r,(ob=true→q.1∉had)→ns.length+q.2.size≤4096→ ∃ns',kidM (valueM T.size (keyTx T) d) ob T.size (keyTx T) had (toks++r) ns= .inr (if ob=true then had++[q.1] else had,r,ns')∧KV T d ob q ns ns'
structure LV(T:ByteArray)(d:Nat)(ob:Bool)(k:Nat)(x0:JN)(its:List (Bs×Vl))(ns ns':List JN):Prop where
 own: ∃x idx,ns'[k]?=some x∧x.kd=x0.kd∧x.ka=x0.ka∧x.kb=x0.kb∧x.kids=x0.kids++idx∧idx.length=its.length∧ ∀i (hi:i<its.length),k<idx.getD i 0∧Rv T ns' d (idx.getD i 0) its[i].2 its[i].2.size∧(ob=true→ ∃y,ns'[idx.getD i 0]?=some y∧StrOk T y.ka y.kb∧its[i].1=keyTx T y.ka y.kb)
 ln:ns'.length=ns.length+Vl.sizes (its.map (·.2))
 at_: ∀i,i≠k→i<ns.length→ns'[i]?=ns[i]?
structure LoopT(T:ByteArray)(d:Nat)(ob:Bool)(a:Nat)(l:Bs)(its:List (Bs×Vl))(toks:List Tok):Prop where
 nt: ∀m,NT T (a+l.length) m→NT T a (toks++m)
 hd: ∃t r,toks=t::r∧t.1≠jendM ob
 ln:its.length≤toks.length
 go: ∀k f had fr ns R x0,its.length≤f→ns[k]?=some x0→(ob=true→ ∀q∈its,q.1∉had)→(ob=true→(its.map (·.1)).Nodup)→ns.length+Vl.sizes (its.map (·.2))≤4096→
  ∃ns',loopM (valueM T.size (keyTx T) d) ob T.size (keyTx T) k f had fr (toks++R) ns= .inr (R,ns')∧LV T d ob k x0 its ns ns'
section
variable {T:ByteArray} {d:Nat} {ob:Bool} {kt:Bs×Vl→Bs} {ln ln0:Bs}
end
theorem sizes_map: ∀l:List Vl,Vl.sizes l=(l.map Vl.size).sum
 | []=>rfl
 |v::l=>by simp only[Vl.sizes,List.map_cons,List.sum_cons,sizes_map l]
theorem zip_texts(g:Bs→Bs→Bs)(f:Vl→Bs): ∀(ks:List Bs) (is:List Vl),List.zipWith g ks (is.map f)=(ks.zip is).map fun q=>g q.1 (f q.2)
 | [],is=>by simp
 |k::ks,[]=>by simp
 |k::ks,x::is=>by
  simp only[List.map_cons,List.zipWith_cons_cons,List.zip_cons_cons,zip_texts g f ks is]
theorem qt_text {t:Bs}:(quoteM (st t)).1=qtB t:=rfl
end Go.Proofs.YtkafjblfjdpdaaaGreatDoor
namespace Go.Proofs.YtkafjblfjdpdaaaGreatDoor
open Go.RowKit
def safeL:UInt8→Bs→Bs
 |_,[]=> []
 |p,c::r=>(if c=127 then [92,117,48,48,55,102] else if c=35∧p=32 then [92,117,48,48,50,51] else [c])++safeL c r
def lastB:UInt8→Bs→UInt8
 |p,[]=>p
 |_,c::r=>lastB c r
theorem safe_app: ∀(a b:Bs) (p:UInt8),safeL p (a++b)=safeL p a++safeL (lastB p a) b
 | [],_,_=>rfl
 |c::a,b,p=>by
  rw[List.cons_append,safeL,safe_app a b c,safeL,List.append_assoc]
  rfl
theorem safe_no: ∀ {a:Bs} (p:UInt8),(∀c∈a,c≠127∧c≠35)→safeL p a=a
 | [],_,_=>rfl
 |c::a,p,h=>by
  have h1:=h c (by simp)
  rw[safeL,if_neg h1.1,if_neg (fun x=>h1.2 x.1),safe_no c (fun x hx=>h x (List.mem_cons_of_mem _ hx))]
  rfl
def Spells(P:Bs)(r:Nat):Prop:=P≠ []∧ ∀(t:ByteArray) (k:Nat),At t k P→byt t k≠34∧partM t k=some (r,P.length)
inductive SpellsAll:Bs→List Nat→Prop
 |nil:SpellsAll [] []
 |cons {P Q:Bs} {r:Nat} {rs:List Nat}:Spells P r→SpellsAll Q rs→SpellsAll (P++Q) (r::rs)
def qtS(t:Bs):Bs:=safeL 0 (qtB t)
structure Quo(Q:Bs→Bs):Prop where
 pos: ∀t,(valid (st t)).2=true→2≤(Q t).length
 one: ∀(T:ByteArray) (a:Nat) (t:Bs),(valid (st t)).2=true→At T a (Q t)→oneM T a=(8,a+(Q t).length,0)
 key: ∀(T:ByteArray) (a:Nat) (t:Bs),(valid (st t)).2=true→At T a (Q t)→a≤T.size→keyTx T a (a+(Q t).length)=t
end Go.Proofs.YtkafjblfjdpdaaaGreatDoor
namespace Go.Proofs.YtkafjblfjdpdaaaGreatDoor
open Go.RowKit
def memQ(Q:Bs→Bs)(k x:Bs):Bs:=Q k++(58::x)
mutual
def prQ(Q:Bs→Bs):Vl→Bs
 | .mk k t ks is=>
   if k=1 then [110,117,108,108] else if k=4 then Q t else if k=5 then listB false 0 0 91 93 (prQs Q is)
   else if k=6 then listB false 0 0 123 125 (List.zipWith (memQ Q) ks (prQs Q is)) else t
def prQs(Q:Bs→Bs):List Vl→List Bs
 | []=> []
 |x::r=>prQ Q x::prQs Q r
end
theorem decM_num {t:Bs} (h:decM t=true):t.all numD=true∧ ∃c r,t=c::r∧(c=45∨isDig c=true):=by
 unfold decM at h
 simp only[Bool.and_eq_true,decide_eq_true_eq]at h
 cases hs:splitM t with
 |none=>
  have h1:=h.1
  unfold parseM at h1
  rw[hs]at h1
  exact absurd h1 (show¬((2:Int)=0) by decide)
 |some q=>exact split_num hs
end Go.Proofs.YtkafjblfjdpdaaaGreatDoor
namespace Go.Proofs.YtkafjblfjdpdaaaGreatDoor
open Go.RowKit
def badC(s:ByteArray)(del:Bool)(p:Nat):Bool:=decide (bad s p)||decide (byt s p<32)||(del&&byt s p==127)
def clnM(s:ByteArray)(del:Bool):Nat→Nat→Nat
 |0,_=>s.size
 |f+1,p=>if p<s.size then(if badC s del p=true then p else clnM s del f (p+wd s p)) else s.size
def cleanM(s:ByteArray)(del:Bool):Nat:=clnM s del s.size 0
theorem clnM_end(s:ByteArray)(d:Bool)(f p:Nat)(h: ¬p<s.size):clnM s d f p=s.size:=by
 cases f with
 |zero=>rfl
 |succ f=>unfold clnM;rw[if_neg h]
theorem clnM_bad(s:ByteArray)(d:Bool)(f p:Nat)(h:p<s.size)(hb:badC s d p=true):clnM s d (f+1) p=p:=by unfold clnM;rw[if_pos h,if_pos hb]
theorem clnM_step(s:ByteArray)(d:Bool)(f p:Nat)(h:p<s.size)(hb:badC s d p=false):clnM s d (f+1) p=clnM s d f (p+wd s p):=by
 rw[clnM,if_pos h,if_neg (by rw[hb];exact Bool.false_ne_true)]
theorem clnM_le(s:ByteArray)(d:Bool): ∀f p,clnM s d f p≤s.size
 |0,_=>Nat.le_refl _
 |f+1,p=>by
  unfold clnM
  split
  ·split
   ·omega
   ·exact clnM_le s d f _
  ·exact Nat.le_refl _
def blkGo(s:ByteArray):Nat→Nat→Nat
 |0,p=>p
 |f+1,p=>if p<s.size∧byt s p=32 then blkGo s f (p+1) else p
def blk(s:ByteArray)(p:Nat):Nat:=blkGo s (s.size-p) p
def sgn(s:ByteArray)(p c:Nat):Bool:=decide (p<s.size)&&(byt s p==c)&&(decide (p+1=s.size)||byt s (p+1)==32)
def cmt(s:ByteArray)(p:Nat):Bool:=decide (0<p)&&byt s p==35&&byt s (p-1)==32
def keyGo(s:ByteArray)(a:Nat):Nat→Nat→Nat
 |0,_=>a
 |f+1,q=>if q<s.size then(if cmt s q=true then a else if a<q∧sgn s q 58=true then q else keyGo s a f (q+1)) else a
def keyTo(s:ByteArray)(a q:Nat):Nat:=keyGo s a (s.size-q) q
def cmtGo(s:ByteArray):Nat→Nat→Nat
 |0,_=>s.size
 |f+1,q=>if q<s.size then(if cmt s q=true then q else cmtGo s f (q+1)) else s.size
def cmtTo(s:ByteArray)(q:Nat):Nat:=cmtGo s (s.size-q) q
def trm(s:ByteArray)(a:Nat):Nat→Nat
 |0=>0
 |t+1=>if a<t+1∧byt s t=32 then trm s a t else t+1
def sglGo(s:ByteArray):Nat→Nat→Bs→Bs×Nat×Int
 |0,_,_=>([],s.size,2)
 |f+1,q,acc=>
  if q<s.size then
   (if byt s q=39 then(if q+1<s.size∧byt s (q+1)=39 then sglGo s f (q+2) (acc++[39]) else(acc,q+1,0))
    else if bad s q∨byt s q<32 then([],q,2)
    else sglGo s f (q+wd s q) (acc++runeAt s q))
  else([],s.size,2)
def sglM(s:ByteArray)(a:Int):Bs×Nat×Int:=
 if a<0∨(s.size:Int)<a then([],0,2) else if a.toNat=s.size∨byt s a.toNat≠39 then([],a.toNat,2) else sglGo s s.size (a.toNat+1) []
theorem sglGo_end {s:ByteArray} {f q:Nat} {acc:Bs} (h: ¬q<s.size):sglGo s f q acc=([],s.size,2):=by
 cases f with
 |zero=>rfl
 |succ f=>rw[sglGo,if_neg h]
theorem sglGo_bad {s:ByteArray} {f q:Nat} {acc:Bs} (h:q<s.size)(h1:byt s q≠39)(h2:bad s q∨byt s q<32):sglGo s (f+1) q acc=([],q,2):=by
 rw[sglGo,if_pos h,if_neg h1,if_pos h2]
theorem sglGo_rune {s:ByteArray} {f q:Nat} {acc:Bs} (h:q<s.size)(h1:byt s q≠39)(h2: ¬(bad s q∨byt s q<32)):sglGo s (f+1) q acc=sglGo s f (q+wd s q) (acc++runeAt s q):=by
 rw[sglGo,if_pos h,if_neg h1,if_neg h2]
def qtd(s:ByteArray)(p:Nat):Nat×Bool×Bool:=
 if p=s.size then(p,false,false)
 else if byt s p=34 then((scanM s p).1,true,(scanM s p).2.1==0)
 else if byt s p=39 then((sglM s p).2.1,true,(sglM s p).2.2==0)
 else(p,false,false)
def ykeyM(s:ByteArray)(p:Nat):Nat×Bool:=
 if (qtd s p).2.1=true then(if (qtd s p).2.2=true∧sgn s (qtd s p).1 58=true then((qtd s p).1,true) else(p,(qtd s p).2.2))
 else if byt s p=91∨byt s p=123 then(p,true)
 else(keyTo s p p,true)
def look(s:ByteArray)(p:Nat):Nat:=if (qtd s p).2.2=true then(qtd s p).1 else p
def restM(s:ByteArray)(p:Nat):(Nat×Nat)×Option Nat:=
 ((blk s p,trm s (blk s p) (cmtTo s (look s (blk s p)))),if cmtTo s (look s (blk s p))<s.size then some (cmtTo s (look s (blk s p))) else none)
def lineD(s:ByteArray)(p:Nat):Option (Nat×Option Nat×(Nat×Nat)×Option Nat):=
 if p=s.size then some (1,none,(p,p),none)
 else if byt s p=35 then some (2,none,(p,p),some p)
 else if sgn s p 45=true then some (3,none,restM s (p+1))
 else if (ykeyM s p).2=false then none
 else if p<(ykeyM s p).1 then some (4,some (ykeyM s p).1,restM s ((ykeyM s p).1+1))
 else some (5,none,restM s p)
end Go.Proofs.YtkafjblfjdpdaaaGreatDoor
namespace Go.Proofs.YtkafjblfjdpdaaaGreatDoor
open Go.RowKit
def subst1(c:UInt8)(new:Bs)(l:Bs):Bs:=l.flatMap fun b=>if b=c then new else [b]
theorem subst1_none {c:UInt8} {new l:Bs} (h:l.count c=0):subst1 c new l=l:=by
 unfold subst1
 have hn: ∀b∈l,b≠c:=fun b hb e=>by
  have:=List.count_eq_zero.1 h
  rw[e]at hb
  exact this hb
 induction l with
 |nil=>rfl
 |cons b l ih=>
  rw[List.flatMap_cons,if_neg (hn b (by simp)),ih (by
   rw[List.count_cons]at h;omega) (fun x hx=>hn x (by simp[hx]))]
  rfl
def dblB(l:Bs):Bs:=subst1 39 [39,39] l
def quotedM(s:ByteArray):Bs×Int:=if cleanM s false=s.size then(39::dblB s.data.toList++[39],0) else([],2)
theorem dblB_len: ∀l:Bs,(dblB l).length≤2*l.length
 | []=>Nat.le_refl _
 |b::l=>by
  have:=dblB_len l
  unfold dblB subst1 at *
  rw[List.flatMap_cons,List.length_append,List.length_cons]
  split<;>simp only[List.length_cons,List.length_nil]<;>omega
theorem vld_clean(s:ByteArray): ∀f p,s.size≤p+f→(vld s f p).2=false→clnM s false f p<s.size
 |0,p,h,h2=>by cases h2
 |f+1,p,h,h2=>by
  by_cases hp:p<s.size
  ·by_cases hb:bad s p
   ·rw[clnM_bad s false f p hp (by unfold badC;rw[decide_eq_true hb];rfl)];exact hp
   ·unfold vld at h2
    rw[if_pos hp,if_neg hb]at h2
    have hw:=wd_pos s p
    have:=vld_clean s f (p+wd s p) (by omega) h2
    cases hc:badC s false p with
    |true=>rw[clnM_bad s false f p hp hc];exact hp
    |false=>rw[clnM_step s false f p hp hc];exact this
  ·rw[vld_end s (f+1) p hp]at h2;cases h2
theorem clean_round(s:ByteArray)(f p:Nat)(h:p<s.size)(hb: ¬bad s p):clnM s false (f+1) p=if byt s p<32 then p else clnM s false f (p+wd s p):=by
 split
 ·rename_i h32
  exact clnM_bad s false f p h (by unfold badC;rw[decide_eq_true h32];simp)
 ·rename_i h32
  exact clnM_step s false f p h (by unfold badC;rw[decide_eq_false h32,decide_eq_false hb];rfl)
end Go.Proofs.YtkafjblfjdpdaaaGreatDoor
namespace Go.Proofs.YtkafjblfjdpdaaaGreatDoor
open Go.RowKit
def plainL(l:Bs):Bool:=l.all fun c=>decide (32≤c.toNat)&&decide (c≠127)
def midL:UInt8→Bs→Bool
 |_,[]=>true
 |p,c::r=>(!(p==58&&c==32)&&!(p==32&&c==35))&&midL c r
def signsL:Bs:=[63,58,44,91,93,123,125,35,38,42,33,124,62,39,34,37,64,96,32]
def headL:Bs→Bool
 | []=>false
 |c::r=> !signsL.contains c&&!(c==45&&(decide (r=[])||r.head?==some 32))
def bareL(l:Bs):Bool:=(valid (st l)).2&&(headL l&&(decide (lastB 0 l≠32∧lastB 0 l≠58)&&(plainL l&&midL 0 l)))
def resolveL(l:Bs):Vl:=
 if l=[]∨l=[110,117,108,108]∨l=[126] then .mk 1 [] [] []
 else if l=[116,114,117,101]∨l=[102,97,108,115,101] then .mk 2 l [] []
 else if (parseM l).2=0 then .mk 3 (textM (parseM l).1) [] []
 else .mk 4 l [] []
def quotL(l:Bs):Bs×Int:=
 if l.head?=some 34 then((unquoteM (st l)).1,(unquoteM (st l)).2.2)
 else if (sglM (st l) 0).2.2=0∧(sglM (st l) 0).2.1=l.length then((sglM (st l) 0).1,0) else([],2)
def RdOf(l:Bs)(v:Vl)(er:Int):Prop:=
 match l with
 | []=>v=resolveL []∧er=0
 |c::_=>
  if c=34∨c=39 then er=(quotL l).2∧v=(if (quotL l).2=0 then .mk 4 (quotL l).1 [] [] else zV)
  else if c=91∨c=123 then(match jparseM (st l) with| .inl q=>v=zV∧er=q.2| .inr ns=>er=0∧Rv (st l) ns 32 0 v ns.length)
  else if bareL l=true then v=resolveL l∧er=0
  else v=zV∧er=2
def inQ(s d:Bs):Bs:=if plainL s=true then(quotedM (st s)).1 else safeL 0 d
def writeL(v:Vl):Bs×Int:=
 if rightM v=true then(if v.k=4 then(if bareL v.t=true∧(resolveL v.t).k=4 then v.t else inQ v.t (prB false 0 0 v)) else safeL 0 (prB false 0 0 v),0) else([],1)
def keyL(l:Bs):Bs×Int:=
 match l with
 | []=>([],2)
 |c::_=>if c=34∨c=39 then quotL l else if bareL l=true then(l,0) else([],2)
def writeKeyL(s:Bs):Bs×Int:=if (valid (st s)).2=true then(if bareL s=true then s else inQ s (qtB s),0) else([],2)
theorem bare_parts {l:Bs} (h:bareL l=true):(valid (st l)).2=true∧headL l=true∧lastB 0 l≠32∧lastB 0 l≠58∧plainL l=true∧midL 0 l=true:=by
 unfold bareL at h
 simp only[Bool.and_eq_true,decide_eq_true_eq]at h
 exact⟨h.1,h.2.1,h.2.2.1.1,h.2.2.1.2,h.2.2.2.1,h.2.2.2.2⟩
theorem bare_first {l:Bs} (h:bareL l=true): ∃c r,l=c::r∧c≠34∧c≠39∧c≠91∧c≠123:=by
 have h1:=(bare_parts h).2.1
 cases l with
 |nil=>cases h1
 |cons c r=>
  refine⟨c,r,rfl,?_⟩
  unfold headL at h1
  simp only[Bool.and_eq_true,Bool.not_eq_true']at h1
  have h2:=h1.1
  refine⟨?_,?_,?_,?_⟩
  all_goals (rintro rfl;exact absurd h2 (by decide))
theorem read_bare {l:Bs} (h:bareL l=true):RdOf l (resolveL l) 0:=by
 obtain⟨c,r,rfl,h1,h2,h3,h4⟩:=bare_first h
 unfold RdOf
 simp only
 rw[if_neg (by simp[h1,h2]),if_neg (by simp[h3,h4]),if_pos h]
 exact⟨trivial,trivial⟩
theorem encU_low {c:UInt8} (h:c.toNat<128):encB c.toNat=[c]:=by
 unfold encB
 rw[Lib.encodeRuneZ_one (by omega) (by omega)]
 simp
theorem num_bytes {c:UInt8} (h:numD c=true):32<c.toNat∧c.toNat<128∧c≠127∧c≠58∧c≠35:=by
 have key: ∀n:Nat,n<256→numD (UInt8.ofNat n)=true→32<n∧n<128∧UInt8.ofNat n≠127∧UInt8.ofNat n≠58∧UInt8.ofNat n≠35:=by decide+kernel
 have:=key c.toNat (UInt8.toNat_lt c)
 rw[UInt8.ofNat_toNat]at this
 exact this h
theorem last_in: ∀ {l:Bs} (p:UInt8),l≠ []→lastB p l∈l
 | [],_,h=>absurd rfl h
 | [c],_,_=>by simp[lastB]
 |c::d::l,p,_=>by
  have:=last_in (l:=d::l) c (by simp)
  exact List.mem_cons_of_mem _ this
theorem clean_of(s:ByteArray): ∀f p,(vld s f p).2=true→(∀i,p≤i→i<s.size→32≤byt s i)→clnM s false f p=s.size
 |0,p,_,_=>rfl
 |f+1,p,hv,hc=>by
  by_cases hp:p<s.size
  ·have hnb: ¬bad s p:=fun h=>by
    rw[vld_bad s f p hp h]at hv
    cases hv
   rw[vld_step s f p hp hnb]at hv
   rw[clean_round s f p hp hnb,if_neg (by have:=hc p (Nat.le_refl _) hp;omega)]
   exact clean_of s f (p+wd s p) hv (fun i h1 h2=>hc i (by omega) h2)
  ·rw[clnM_end s false (f+1) p hp]
theorem plain_at {l:Bs} (h:plainL l=true)(i:Nat)(hi:i<(st l).size):32≤byt (st l) i∧byt (st l) i≠127:=by
 have hl:i<(st l).data.toList.length:=by rw[Array.length_toList];exact hi
 rw[←bytT (st l) i hl]
 have h0:plainL (st l).data.toList=true:=by rw[st_list];exact h
 have h1:=List.all_eq_true.1 h0 ((st l).data.toList[i]'hl) (List.getElem_mem hl)
 simp only[Bool.and_eq_true,decide_eq_true_eq]at h1
 exact⟨h1.1,fun e=>h1.2 (UInt8.toNat_inj.1 e)⟩
theorem quoted_plain {t:Bs} (hv:(valid (st t)).2=true)(h:plainL t=true):(quotedM (st t))=(39::dblB t++[39],0):=by
 have hc:cleanM (st t) false=(st t).size:=clean_of (st t) _ 0 hv (fun i _ hi=>(plain_at h i hi).1)
 unfold quotedM
 rw[if_pos hc,st_list]
theorem write_str {t:Bs} (_h:(valid (st t)).2=true):prB false 0 0 (.mk 4 t [] [])=qtB t:=by
 rw[prB_mk,if_neg (by decide),if_pos rfl]
end Go.Proofs.YtkafjblfjdpdaaaGreatDoor
