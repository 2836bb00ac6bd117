/-
  WALKS: print.Compact, Canon, Pretty.
  PLAIN MATHEMATICS: a sorted value's text is as long as the value's own.
  PLAIN MATHEMATICS: one text in a line just of one value (PrintApart).
  PLAIN MATHEMATICS: what is printed is read.
  PLAIN MATHEMATICS: a text made safe for a line: no 127, no # behind a blank; a string so written is read.
  PLAIN MATHEMATICS: a value's text with any way to write strings; made safe, it is read as that value.
-/
import Derived.Test.YtkafjblfjdpdaaaGreatDoorPrM
import Derived.Test.YtkafjblfjdpdaaaGreatDoorPrA
namespace Go.Proofs.YtkafjblfjdpdaaaGreatDoor
open Go.RowKit
structure Pri(x:Vt)(w:World):Prop where
 fine:Fine x w
 sht:x.m.All Sht
theorem Pri.grow {x:Vt} {w w':World} (h:Pri x w)(hb:Below w.heap.size w w'):Pri x w':=⟨h.fine.grow hb,h.sht⟩
def sortM(v:Vl):Vl:=if openM v=true then sortV v else zeroL
def NewP(g:Nat)(l:Bs)(ls:Bool)(n:Int)(w:World)(e:Ending)(w':World):Prop:=e= .returned (.tuple #[])∧Prn w.heap.size g l ls n w'∧Below w.heap.size w w'
theorem new_value(x:Vt)(ls:Bool)(n lev:Nat)(w:World)(hE:Env w)(hx:Pri x w)(hn:n≤8)(hv:lev≤32)(hr:rightM x.m=true):
 Calls Tryz.prog 89 #[.pointer (some ⟨w.heap.size,0,none⟩),x.v,.int .i64 (lev:Int)] (w.alloc (.cells #[.pointer none,.slice none 0 0,.bool ls,.int .i64 (n:Int)] 100)) (NewP w.heap.size (prB ls n lev x.m) ls (n:Int) w):=by
 obtain⟨hg,h1,h2,_⟩:=right_good hr
 have hb0:=below_alloc w (.cells #[.pointer none,.slice none 0 0,.bool ls,.int .i64 (n:Int)] 100)
 have hp:Prn w.heap.size w.heap.size [] ls (n:Int) (w.alloc (.cells #[.pointer none,.slice none 0 0,.bool ls,.int .i64 (n:Int)] 100)):= .inl ⟨Nat.le_refl _,.slice none 0 0,heap_alloc_new w _,World.ownsRow_nil _ _ _ _⟩
 refine(pvalue w.heap.size ls n (by omega) hE.tab x [] lev _ hx.fine.ok (good_prok hg hx.sht) hb0 hp (by omega) (by have:=prB_fits hr hx.sht ls hn hv;simpa using this)).mono ?_
 rintro e w' ⟨rfl,h3⟩
 exact⟨rfl,h3.1,hb0.trans h3.2.1⟩
set_option maxHeartbeats 8000000 in
set_option maxRecDepth 1000000 in
theorem pcompact(x:Vt)(w:World)(hE:Env w)(hx:Pri x w):Calls Tryz.prog 48 #[x.v] w (TextP (compactM x.m) w):=by
 have HR:=hq (fun W (h:Below w.heap.size w W)=>vright_any x W (hE.grow h) (hx.fine.ok.grow h) hx.fine.lim (by have:=hx.fine.sz;omega))
 have HV:=hq (fun (hr:rightM x.m=true) W (h:Below w.heap.size w W)=>new_value x false 0 0 W (hE.grow h) (hx.grow h) (by omega) (by omega) hr)
 have HN:=hq (fun (hr:rightM x.m=true)=>prB_ne false 0 0 hr)
 have HCM:Hq (compactM x.m=if rightM x.m=true then(prB false 0 0 x.m,0) else([],1)):=hq rfl
 have HP:Hq (∀(r:Bs×Int) W',compactM x.m=r→Below w.heap.size w W'→TextP (compactM x.m) w (.returned (.tuple #[.string (st r.1),.int .i64 r.2])) W'):=hq (fun r W' h1 h2=>by rw[h1];exact⟨rfl,h2⟩)
 generalize TextP (compactM x.m) w=PP at *
 generalize compactM x.m=CM at *
 generalize prB false 0 0 x.m=PB at *
 clear hE hx
 obtain⟨k,t,⟨ko,kc,kl⟩,o,c,is⟩:=x
 rw[Vt.v_mk']at *
 generalize (Vt.mk k t ⟨ko,kc,kl⟩ o c is).m=X at *
 have hb0:=below_alloc w (.cells #[.int .i64 k,.string (st t),.slice ko kl.length kc,.slice o is.length c] 26)
 have HB0:=hq hb0
 have HW0:=hq (Whole.made w 26 #[.int .i64 k,.string (st t),.slice ko kl.length kc,.slice o is.length c])
 clear hb0
 obtain⟨c0,c1,c2,c3⟩:=four_cells HW0.o
 go_enter Tryz.func48,Tryz.ntmps48
 go_wp2_with fail
 generalize w.heap.size=g at c0 c1 c2 c3 HW0
 generalize (w.alloc (.cells #[.int .i64 k,.string (st t),.slice ko kl.length kc,.slice o is.length c] 26))=V0 at *
 refine(HR.o V0 HB0.o).mono ?_
 rintro e w1 ⟨rfl,hb1⟩
 have HB1:=hq (below_trans HB0.o hb1)
 have HW1:=hq (HW0.o.grow hb1)
 obtain⟨d0,d1,d2,d3⟩:=four_cells HW1.o
 clear HR hb1 c0 c1 c2 c3
 by_cases hr:rightM X=true
 case neg=>
  have hf:rightM X=false:=by simpa using hr
  have HU:=hq (HP.o ([],1) w1 (by rw[HCM.o,if_neg hr]) HB1.o)
  rw[hf]
  clear HP HCM HV HN hr hf
  go_wp2_with fail
  first
   |exact HU.o
   |(go_ret
     exact HU.o)
 case pos=>
  have HE:Hq (CM=(PB,0)):=hq (by rw[HCM.o,if_pos hr])
  have HC:=hq (HV.o hr w1 HB1.o)
  have HNE:=hq (HN.o hr)
  rw[hr]
  clear HV HN HCM hr
  have h00:((0:Nat):Int)=0:=rfl
  rw[h00]at HC
  obtain⟨e0,e1,e2,e3⟩:=four_cells (HW1.o.alloc (.cells #[.pointer none,.slice none 0 0,.bool false,.int .i64 0] 100))
  clear h00
  go_wp2_with fail
  refine HC.o.mono ?_
  rintro e w2 ⟨rfl,h2,hb2⟩
  have HS:=hq (pString w1.heap.size w1.heap.size PB false 0 w2 h2 HNE.o)
  have HQ:=hq (fun W'=>HP.o (PB,0) W' HE.o)
  have HB2:=hq hb2
  clear HC HNE h2 hb2 HP HE d0 d1 d2 d3 e0 e1 e2 e3 HW1 HW0
  go_wp2_with fail
  refine HS.o.mono ?_
  rintro e w3 ⟨rfl,h3⟩
  have HU:=hq (HQ.o w3 (below_trans HB1.o (HB2.o.trans h3)))
  clear HS HQ HB2 h3
  go_wp2_with fail
  first
   |exact HU.o
   |(go_ret
     exact HU.o)
end Go.Proofs.YtkafjblfjdpdaaaGreatDoor
namespace Go.Proofs.YtkafjblfjdpdaaaGreatDoor
open Go.RowKit
end Go.Proofs.YtkafjblfjdpdaaaGreatDoor
namespace Go.Proofs.YtkafjblfjdpdaaaGreatDoor
open Go.RowKit
def Dlm(r:Bs):Prop:= ∀c t,r=c::t→c=44∨c=93∨c=125∨c=58
def numC(c:UInt8):Bool:=c==45||c==101||isDig c
def sc:Bs→Option (Bs×Bs)
 | []=>none
 | [c]=>if c=34 then some ([],[]) else none
 |c::d::l=>if c=34 then some ([],d::l) else if c=92 then(sc l).map (fun p=>(c::d::p.1,p.2)) else(sc (d::l)).map (fun p=>(c::p.1,p.2))
def hexvP(c:UInt8):Nat:=if c.toNat<58 then c.toNat-48 else c.toNat-87
def firstQ:Bs→UInt8×Bs
 | []=>(0,[])
 | [c]=>(c,[])
 |c::d::l=>if c=92 then(if d=117 then(UInt8.ofNat (hexvP (l.getD 2 0)*16+hexvP (l.getD 3 0)),l.drop 4) else(if d=98 then 8 else if d=102 then 12 else if d=110 then 10 else if d=114 then 13 else if d=116 then 9 else d,l)) else(c,d::l)
def tailB' {α:Type} (c:α→Bs)(l:List α):Bs:=l.flatMap fun x=>44::c x
structure Codes {α:Type} (c:α→Bs)(p:α→Prop):Prop where
 ne: ∀x,p x→ ∃d l,c x=d::l∧d≠93∧d≠125∧d≠44
def Rgt(v:Vl):Prop:=v.allB (fun x=>nodeM x&&decide (x.k≠7))=true
theorem Rgt.here {k:Int} {t:Bs} {ks:List Bs} {is:List Vl} (h:Rgt (.mk k t ks is)):nodeM (.mk k t ks is)=true∧k≠7:=by
 unfold Rgt at h
 simp only[Vl.allB,Bool.and_eq_true]at h
 exact⟨h.1.1,of_decide_eq_true h.1.2⟩
theorem Rgt.item {k:Int} {t:Bs} {ks:List Bs} {is:List Vl} (h:Rgt (.mk k t ks is)): ∀x∈is,Rgt x:=fun x hx=>by
 unfold Rgt at h ⊢
 simp only[Vl.allB,Bool.and_eq_true]at h
 exact Vl.allsB_iff.1 h.2 x hx
theorem Rgt.is {k:Int} {t:Bs} {ks:List Bs} {is:List Vl} (h:Rgt (.mk k t ks is)):
 (k=1∧t=[]∧ks=[]∧is=[])∨(k=2∧(t=[116,114,117,101]∨t=[102,97,108,115,101])∧ks=[]∧is=[])∨(k=3∧decM t=true∧ks=[]∧is=[])∨
 (k=4∧(valid (st t)).2=true∧ks=[]∧is=[])∨(k=5∧t=[]∧ks=[])∨(k=6∧t=[]∧ks.length=is.length∧ ∀x∈ks,(valid (st x)).2=true):=by
 obtain⟨h1,h7⟩:=h.here
 have e:nodeM (.mk k t ks is)=if k=5 then decide (t=[])&&decide (ks=[]) else if k=6 then decide (t=[])&&membersM ks is.length else(decide (ks=[])&&decide (is=[]))&&scalarM k t:=rfl
 rw[e]at h1
 by_cases k5:k=5
 ·rw[if_pos k5]at h1
  simp only[Bool.and_eq_true,decide_eq_true_eq]at h1
  exact .inr (.inr (.inr (.inr (.inl ⟨k5,h1⟩))))
 rw[if_neg k5]at h1
 by_cases k6:k=6
 ·rw[if_pos k6]at h1
  unfold membersM at h1
  simp only[Bool.and_eq_true,decide_eq_true_eq,List.all_eq_true]at h1
  exact .inr (.inr (.inr (.inr (.inr ⟨k6,h1.1,h1.2.1,h1.2.2.2.1⟩))))
 rw[if_neg k6]at h1
 simp only[Bool.and_eq_true,decide_eq_true_eq]at h1
 obtain⟨⟨h2,h3⟩,h4⟩:=h1
 unfold scalarM at h4
 by_cases k1:k=1
 ·rw[if_pos k1,decide_eq_true_eq]at h4;exact .inl ⟨k1,h4,h2,h3⟩
 rw[if_neg k1]at h4
 by_cases k2:k=2
 ·rw[if_pos k2,Bool.or_eq_true,decide_eq_true_eq,decide_eq_true_eq]at h4;exact .inr (.inl ⟨k2,h4,h2,h3⟩)
 rw[if_neg k2]at h4
 by_cases k3:k=3
 ·rw[if_pos k3]at h4;exact .inr (.inr (.inl ⟨k3,h4,h2,h3⟩))
 rw[if_neg k3]at h4
 by_cases k4:k=4
 ·rw[if_pos k4]at h4;exact .inr (.inr (.inr (.inl ⟨k4,h4,h2,h3⟩)))
 rw[if_neg k4,if_neg h7]at h4
 cases h4
def kindC(c:UInt8):Int:=if c=110 then 1 else if c=116∨c=102 then 2 else if c=34 then 4 else if c=91 then 5 else if c=123 then 6 else 3
end Go.Proofs.YtkafjblfjdpdaaaGreatDoor
namespace Go.Proofs.YtkafjblfjdpdaaaGreatDoor
open Go.RowKit
structure ValT(T:ByteArray)(d a:Nat)(l:Bs)(v:Vl)(toks:List Tok):Prop where
 nt: ∀m,NT T (a+l.length) m→NT T a (toks++m)
 hd: ∃t r,toks=t::r∧kindM t.1≠0
 go: ∀key ns r,ns.length+v.size≤4096→ ∃ns',valueM T.size (keyTx T) d (toks++r) key ns= .inr (r,ns')∧Rv T ns' d ns.length v v.size∧ns'.length=ns.length+v.size∧ ∃y,ns'[ns.length]?=some y∧y.ka=key.1∧y.kb=key.2
structure KV(T:ByteArray)(d:Nat)(ob:Bool)(q:Bs×Vl)(ns ns':List JN):Prop where
 rv:Rv T ns' d ns.length q.2 q.2.size
 ln:ns'.length=ns.length+q.2.size
 ky:ob=true→ ∃y,ns'[ns.length]?=some y∧StrOk T y.ka y.kb∧q.1=keyTx T y.ka y.kb
 at_: ∀i,i<ns.length→ns'[i]?=ns[i]?
structure KidT(T:ByteArray)(d:Nat)(ob:Bool)(a:Nat)(l:Bs)(q:Bs×Vl)(toks:List Tok):Prop where
 nt: ∀m,NT T (a+l.length) m→NT T a (toks++m)
 hd: ∃t r,toks=t::r∧t.1≠jendM ob
 go: ∀had ns r,(ob=true→q.1∉had)→ns.length+q.2.size≤4096→ ∃ns',kidM (valueM T.size (keyTx T) d) ob T.size (keyTx T) had (toks++r) ns= .inr (if ob=true then had++[q.1] else had,r,ns')∧KV T d ob q ns ns'
structure LV(T:ByteArray)(d:Nat)(ob:Bool)(k:Nat)(x0:JN)(its:List (Bs×Vl))(ns ns':List JN):Prop where
 own: ∃x idx,ns'[k]?=some x∧x.kd=x0.kd∧x.ka=x0.ka∧x.kb=x0.kb∧x.kids=x0.kids++idx∧idx.length=its.length∧ ∀i (hi:i<its.length),k<idx.getD i 0∧Rv T ns' d (idx.getD i 0) its[i].2 its[i].2.size∧(ob=true→ ∃y,ns'[idx.getD i 0]?=some y∧StrOk T y.ka y.kb∧its[i].1=keyTx T y.ka y.kb)
 ln:ns'.length=ns.length+Vl.sizes (its.map (·.2))
 at_: ∀i,i≠k→i<ns.length→ns'[i]?=ns[i]?
structure LoopT(T:ByteArray)(d:Nat)(ob:Bool)(a:Nat)(l:Bs)(its:List (Bs×Vl))(toks:List Tok):Prop where
 nt: ∀m,NT T (a+l.length) m→NT T a (toks++m)
 hd: ∃t r,toks=t::r∧t.1≠jendM ob
 ln:its.length≤toks.length
 go: ∀k f had fr ns R x0,its.length≤f→ns[k]?=some x0→(ob=true→ ∀q∈its,q.1∉had)→(ob=true→(its.map (·.1)).Nodup)→ns.length+Vl.sizes (its.map (·.2))≤4096→
  ∃ns',loopM (valueM T.size (keyTx T) d) ob T.size (keyTx T) k f had fr (toks++R) ns= .inr (R,ns')∧LV T d ob k x0 its ns ns'
section
variable {T:ByteArray} {d:Nat} {ob:Bool} {kt:Bs×Vl→Bs} {ln ln0:Bs}
end
theorem sizes_map: ∀l:List Vl,Vl.sizes l=(l.map Vl.size).sum
 | []=>rfl
 |v::l=>by simp only[Vl.sizes,List.map_cons,List.sum_cons,sizes_map l]
theorem zip_texts(g:Bs→Bs→Bs)(f:Vl→Bs): ∀(ks:List Bs) (is:List Vl),List.zipWith g ks (is.map f)=(ks.zip is).map fun q=>g q.1 (f q.2)
 | [],is=>by simp
 |k::ks,[]=>by simp
 |k::ks,x::is=>by
  simp only[List.map_cons,List.zipWith_cons_cons,List.zip_cons_cons,zip_texts g f ks is]
theorem qt_text {t:Bs}:(quoteM (st t)).1=qtB t:=rfl
end Go.Proofs.YtkafjblfjdpdaaaGreatDoor
namespace Go.Proofs.YtkafjblfjdpdaaaGreatDoor
open Go.RowKit
def safeL:UInt8→Bs→Bs
 |_,[]=> []
 |p,c::r=>(if c=127 then [92,117,48,48,55,102] else if c=35∧p=32 then [92,117,48,48,50,51] else [c])++safeL c r
def lastB:UInt8→Bs→UInt8
 |p,[]=>p
 |_,c::r=>lastB c r
theorem lastB_app: ∀(a b:Bs) (p:UInt8),lastB p (a++b)=lastB (lastB p a) b
 | [],_,_=>rfl
 |c::a,b,_=>lastB_app a b c
theorem safe_app: ∀(a b:Bs) (p:UInt8),safeL p (a++b)=safeL p a++safeL (lastB p a) b
 | [],_,_=>rfl
 |c::a,b,p=>by
  rw[List.cons_append,safeL,safe_app a b c,safeL,List.append_assoc]
  rfl
theorem safe_no: ∀ {a:Bs} (p:UInt8),(∀c∈a,c≠127∧c≠35)→safeL p a=a
 | [],_,_=>rfl
 |c::a,p,h=>by
  have h1:=h c (by simp)
  rw[safeL,if_neg h1.1,if_neg (fun x=>h1.2 x.1),safe_no c (fun x hx=>h x (List.mem_cons_of_mem _ hx))]
  rfl
theorem safe_any {a:Bs} (p q:UInt8)(h: ∀r,a≠35::r):safeL p a=safeL q a:=by
 cases a with
 |nil=>rfl
 |cons c r=>
  have hc:c≠35:=fun hc=>h r (by rw[hc])
  rw[safeL,safeL,if_neg (fun x:c=35∧p=32=>hc x.1),if_neg (fun x:c=35∧q=32=>hc x.1)]
def Spells(P:Bs)(r:Nat):Prop:=P≠ []∧ ∀(t:ByteArray) (k:Nat),At t k P→byt t k≠34∧partM t k=some (r,P.length)
inductive SpellsAll:Bs→List Nat→Prop
 |nil:SpellsAll [] []
 |cons {P Q:Bs} {r:Nat} {rs:List Nat}:Spells P r→SpellsAll Q rs→SpellsAll (P++Q) (r::rs)
theorem scan_spelt(t:ByteArray) {Q:Bs} {rs:List Nat} (h:SpellsAll Q rs): ∀(k g:Nat) (acc:List Nat),At t k (Q++[34])→t.size≤k+g→scanGo t g k acc=(k+Q.length+1,0,acc++rs):=by
 induction h with
 |nil=>
  intro k g acc hat hg
  obtain⟨hk,hb,_⟩:=At.cons (x:=34) (l:=[]) hat
  obtain⟨g,rfl⟩: ∃i,g=i+1:=⟨g-1,by omega⟩
  rw[scanGo,if_pos hk,if_pos (show byt t k=34 from hb),List.append_nil]
  rfl
 | @cons P Q r rs hP _ ih=>
   intro k g acc hat hg
   rw[List.append_assoc]at hat
   obtain⟨h34,hpart⟩:=hP.2 t k hat.take
   have hlen:1≤P.length:=by
    have:=List.length_pos_iff.2 hP.1
    omega
   have hkt:k<t.size:=by
    cases hz:P with
    |nil=>exact absurd hz hP.1
    |cons x l=>rw[hz]at hat;exact hat.cons.1
   obtain⟨g,rfl⟩: ∃i,g=i+1:=⟨g-1,by omega⟩
   rw[scanGo,if_pos hkt,if_neg h34,hpart]
   simp only
   rw[ih _ g _ hat.skip (by omega),List.append_assoc,List.length_append]
   simp only[List.singleton_append,Prod.mk.injEq,and_true]
   omega
theorem spell_four {x y:UInt8} {c:Nat} (hx:hex4 48 48 x.toNat y.toNat=some c)(hc:c<55296):Spells [92,117,48,48,x,y] c:=by
 refine⟨by simp,fun t k h=> ?_⟩
 obtain⟨k1,b1,h⟩:=h.cons
 obtain⟨k2,b2,h⟩:=h.cons
 obtain⟨k3,b3,h⟩:=h.cons
 obtain⟨k4,b4,h⟩:=h.cons
 obtain⟨k5,b5,h⟩:=h.cons
 obtain⟨k6,b6,h⟩:=h.cons
 have b1':byt t k=92:=b1
 have b2':byt t (k+1)=117:=b2
 have b3':byt t (k+2)=48:=b3
 have b4':byt t (k+3)=48:=b4
 have b5':byt t (k+4)=x.toNat:=b5
 have b6':byt t (k+5)=y.toNat:=b6
 refine⟨by omega,?_⟩
 have hu:uni t k=some c:=by
  unfold uni
  rw[if_pos ⟨by omega,b1',b2'⟩,b3',b4',b5',b6',hx]
 have he:escU t k=some (c,6):=by
  unfold escU
  rw[hu]
  simp only
  rw[if_neg (by omega),if_pos (by omega)]
 unfold partM escM
 rw[if_pos b1',if_neg (by omega),b2',he]
 rfl
theorem qb_no: ∀c:Nat,c<128→c≠127→c≠35→ ∀x∈qb (UInt8.ofNat c),x≠127∧x≠35:=by decide+kernel
theorem qb_127:qb (UInt8.ofNat 127)=[127]:=by decide+kernel
theorem qb_35:qb (UInt8.ofNat 35)=[35]:=by decide+kernel
theorem part_ne(s:ByteArray)(p:Nat)(hp:p<s.size):partAt s p≠ []:=by
 unfold partAt
 split
 ·have: ∀c:Nat,c<128→qb (UInt8.ofNat c)≠ []:=by decide+kernel
  exact this _ (by assumption)
 ·intro h
  have:=runeAt_len s p hp
  have:=wd_pos s p
  rw[h]at *
  simp at *
  omega
theorem part_safe(s:ByteArray)(p:Nat)(q:UInt8)(hp:p<s.size)(hb: ¬bad s p):Spells (safeL q (partAt s p)) (Utf8.decode s p).1:=by
 by_cases hlow:byt s p<128
 ·have hd:(Utf8.decode s p).1=byt s p:=by rw[dec_low s p hlow]
  have he:partAt s p=qb (UInt8.ofNat (byt s p)):=by unfold partAt;rw[if_pos hlow]
  by_cases h1:byt s p=127
  ·rw[hd,he,h1,qb_127]
   exact spell_four (x:=55) (y:=102) (by decide) (by decide)
  ·by_cases h2:byt s p=35∧q=32
   ·rw[hd,he,h2.1,qb_35,h2.2]
    exact spell_four (x:=50) (y:=51) (by decide) (by decide)
   ·have hs:safeL q (partAt s p)=partAt s p:=by
     by_cases h3:byt s p=35
     ·rw[he,h3,qb_35,safeL,if_neg (by decide),if_neg (fun h=>h2 ⟨h3,h.2⟩)]
      rfl
     ·rw[he]
      exact safe_no q (qb_no _ hlow h1 h3)
    rw[hs]
    exact⟨part_ne s p hp,fun t k h=>part_at s t p k hp hb h⟩
 ·have hs:safeL q (partAt s p)=partAt s p:=by
   refine safe_no q (fun c hc=> ?_)
   unfold partAt at hc
   rw[if_neg hlow]at hc
   have h1:=runeAt_high s p hp (by omega) c hc
   constructor
   ·intro h;rw[h]at h1;exact absurd h1 (by decide)
   ·intro h;rw[h]at h1;exact absurd h1 (by decide)
  rw[hs]
  exact⟨part_ne s p hp,fun t k h=>part_at s t p k hp hb h⟩
theorem spell_safe(s:ByteArray): ∀(f p:Nat) (q:UInt8),(vld s f p).2=true→p≤s.size→s.size≤p+f→ ∃rs,encAll rs=s.data.toList.drop p∧SpellsAll (safeL q (quoteB (s.data.toList.drop p))) rs:=by
 intro f
 induction f with
 |zero=>
  intro p q _ hp hf
  have hnil:s.data.toList.drop p=[]:=List.drop_eq_nil_of_le (by rw[Array.length_toList];exact hf)
  rw[hnil]
  exact⟨[],rfl,.nil⟩
 |succ f ih=>
  intro p q hv hp hf
  by_cases hps:p<s.size
  ·have hnb: ¬bad s p:=fun h=>by
    rw[vld_bad s f p hps h]at hv
    cases hv
   rw[vld_step s f p hps hnb]at hv
   have hwp:=wd_pos s p
   have hwl:=wd_le s p hps
   rw[quoteB_drop s p hps,safe_app]
   obtain⟨rs,h1,h2⟩:=ih (p+wd s p) (lastB q (partAt s p)) hv hwl (by omega)
   refine⟨(Utf8.decode s p).1::rs,?_,.cons (part_safe s p q hps hnb) h2⟩
   show encB _++encAll rs=_
   rw[h1,encB_at s p hps hnb,←drop_rune]
  ·have hnil:s.data.toList.drop p=[]:=List.drop_eq_nil_of_le (by rw[Array.length_toList];show s.size≤p;omega)
   rw[hnil]
   exact⟨[],rfl,.nil⟩
def qtS(t:Bs):Bs:=safeL 0 (qtB t)
theorem qtS_yes {t:Bs} (h:(valid (st t)).2=true):qtS t=34::(safeL 34 (quoteB t)++[34]):=by
 unfold qtS
 rw[←qt_text,quoteM_yes h,st_list,safe_app,safeL,if_neg (by decide),if_neg (by decide)]
 rw[safe_no (a:=[34]) _ (by decide)]
 rfl
theorem scan_safe {t:Bs} {T:ByteArray} {a:Nat} (h:(valid (st t)).2=true)(hat:At T a (qtS t)): ∃rs,encAll rs=t∧scanM T a=(a+(qtS t).length,0,rs):=by
 rw[qtS_yes h]at hat ⊢
 obtain⟨ha,hb,hat⟩:=At.cons hat
 obtain⟨rs,h1,h2⟩:=spell_safe (st t) (st t).size 0 34 h (Nat.zero_le _) (by omega)
 rw[List.drop_zero,st_list]at h1 h2
 refine⟨rs,h1,?_⟩
 unfold scanM
 rw[if_pos ⟨ha,hb⟩,scan_spelt T h2 (a+1) T.size [] hat (by omega)]
 simp only[List.nil_append,Prod.mk.injEq,and_true,List.length_cons,List.length_append,List.length_nil]
 omega
structure Quo(Q:Bs→Bs):Prop where
 pos: ∀t,(valid (st t)).2=true→2≤(Q t).length
 one: ∀(T:ByteArray) (a:Nat) (t:Bs),(valid (st t)).2=true→At T a (Q t)→oneM T a=(8,a+(Q t).length,0)
 key: ∀(T:ByteArray) (a:Nat) (t:Bs),(valid (st t)).2=true→At T a (Q t)→a≤T.size→keyTx T a (a+(Q t).length)=t
end Go.Proofs.YtkafjblfjdpdaaaGreatDoor
namespace Go.Proofs.YtkafjblfjdpdaaaGreatDoor
open Go.RowKit
def memQ(Q:Bs→Bs)(k x:Bs):Bs:=Q k++(58::x)
mutual
def prQ(Q:Bs→Bs):Vl→Bs
 | .mk k t ks is=>
   if k=1 then [110,117,108,108] else if k=4 then Q t else if k=5 then listB false 0 0 91 93 (prQs Q is)
   else if k=6 then listB false 0 0 123 125 (List.zipWith (memQ Q) ks (prQs Q is)) else t
def prQs(Q:Bs→Bs):List Vl→List Bs
 | []=> []
 |x::r=>prQ Q x::prQs Q r
end
theorem prQs_map(Q:Bs→Bs): ∀l:List Vl,prQs Q l=l.map (prQ Q)
 | []=>rfl
 |x::l=>by simp only[prQs,List.map_cons,prQs_map Q l]
theorem prQ_mk(Q:Bs→Bs)(k:Int)(t:Bs)(ks:List Bs)(is:List Vl):prQ Q (.mk k t ks is)=
 if k=1 then [110,117,108,108] else if k=4 then Q t else if k=5 then listB false 0 0 91 93 (is.map (prQ Q))
 else if k=6 then listB false 0 0 123 125 (List.zipWith (memQ Q) ks (is.map (prQ Q))) else t:=by
 simp only[prQ,prQs_map]
theorem num_safe {c:UInt8} (h:numD c=true):c≠127∧c≠35:=by
 constructor
 ·intro hc;rw[hc]at h;exact absurd h (by decide)
 ·intro hc;rw[hc]at h;exact absurd h (by decide)
theorem decM_num {t:Bs} (h:decM t=true):t.all numD=true∧ ∃c r,t=c::r∧(c=45∨isDig c=true):=by
 unfold decM at h
 simp only[Bool.and_eq_true,decide_eq_true_eq]at h
 cases hs:splitM t with
 |none=>
  have h1:=h.1
  unfold parseM at h1
  rw[hs]at h1
  exact absurd h1 (show¬((2:Int)=0) by decide)
 |some q=>exact split_num hs
theorem qtB_first(t r:Bs):qtB t≠35::r:=by
 intro h
 unfold qtB quoteM at h
 split at h
 ·have:(34:UInt8)=35:=(List.cons.inj h).1
  exact absurd this (by decide)
 ·cases h
theorem safe_qt(p:UInt8)(t:Bs):safeL p (qtB t)=qtS t:=safe_any p 0 (qtB_first t)
theorem safe_flat {α:Type} {f g:α→Bs}: ∀(l:List α),(∀x∈l,∀p,safeL p (f x)=g x)→ ∀p,safeL p ((l.map f).flatMap fun y=>44::(([]:Bs)++y))=(l.map g).flatMap fun y=>44::(([]:Bs)++y)
 | [],_,_=>rfl
 |x::l,h,p=>by
  simp only[List.map_cons,List.flatMap_cons,List.nil_append,List.cons_append]
  have h1:=fun p=>safe_flat l (fun y hy=>h y (List.mem_cons_of_mem _ hy)) p
  simp only[List.nil_append]at h1
  rw[safeL,if_neg (by decide),if_neg (fun y=>absurd y.1 (by decide)),safe_app,h x (by simp),h1]
  rfl
theorem safe_list {α:Type} {f g:α→Bs} (l:List α)(h: ∀x∈l,∀p,safeL p (f x)=g x)(o c:UInt8)(ho:o≠127∧o≠35)(hc:c≠127∧c≠35)(n lev:Nat)(p:UInt8):
 safeL p (listB false n lev o c (l.map f))=listB false 0 0 o c (l.map g):=by
 have hs1: ∀q,safeL q [c]=[c]:=fun q=>safe_no q (fun x hx=>by rw[List.mem_singleton]at hx;rw[hx];exact hc)
 have e: ∀m k,lnB false m k=[]:=fun m k=>rfl
 unfold listB
 simp only[e,ite_self,List.append_nil]
 rw[safeL,if_neg ho.1,if_neg (fun x=>ho.2 x.1),safe_app,hs1]
 cases l with
 |nil=>rfl
 |cons x l=>
  simp only[List.map_cons,commaB,List.nil_append]
  have h1:=fun p=>safe_flat l (fun y hy=>h y (List.mem_cons_of_mem _ hy)) p
  simp only[List.nil_append]at h1
  rw[safe_app,h x (by simp),h1]
  rfl
theorem safe_prB(n:Nat): ∀v:Vl,Rgt v→ ∀(lev:Nat) (p:UInt8),safeL p (prB false n lev v)=prQ qtS v:=Vl.ind (fun k t ks is ih h lev p=>by
 obtain⟨hn,h7⟩:=h.here
 have hit:=h.item
 rw[nodeM_mk]at hn
 rw[prB_mk,prQ_mk]
 by_cases h1:k=1
 ·rw[if_pos h1,if_pos h1]
  exact safe_no p (by decide)
 rw[if_neg h1,if_neg h1]
 by_cases h4:k=4
 ·rw[if_pos h4,if_pos h4]
  exact safe_qt p t
 rw[if_neg h4,if_neg h4]
 by_cases h5:k=5
 ·rw[if_pos h5,if_pos h5]
  exact safe_list is (fun x hx q=>ih x hx (hit x hx) (lev+1) q) 91 93 (by decide) (by decide) n lev p
 rw[if_neg h5]at hn ⊢
 rw[if_neg h5]
 by_cases h6:k=6
 ·rw[if_pos h6,if_pos h6,zip_texts,zip_texts]
  refine safe_list (ks.zip is) (fun q hq r=> ?_) 123 125 (by decide) (by decide) n lev p
  have hi:q.2∈is:=(List.of_mem_zip hq).2
  have e:memB false q.1 (prB false n (lev+1) q.2)=qtB q.1++(58::prB false n (lev+1) q.2):=by unfold memB;simp
  rw[e,safe_app,safe_qt,safeL,if_neg (by decide),if_neg (fun y=>absurd y.1 (by decide)),ih q.2 hi (hit _ hi)]
  rfl
 rw[if_neg h6]at hn ⊢
 rw[if_neg h6]
 simp only[Bool.and_eq_true,decide_eq_true_eq]at hn
 obtain⟨_,hsc⟩:=hn
 unfold scalarM at hsc
 rw[if_neg h1]at hsc
 by_cases h2:k=2
 ·rw[if_pos h2]at hsc
  simp only[Bool.or_eq_true,decide_eq_true_eq]at hsc
  rcases hsc with rfl|rfl
  ·exact safe_no p (by decide)
  ·exact safe_no p (by decide)
 rw[if_neg h2]at hsc
 by_cases h3:k=3
 ·rw[if_pos h3]at hsc
  refine safe_no p (fun c hc=>num_safe (List.all_eq_true.1 (decM_num hsc).1 c hc))
 rw[if_neg h3,if_neg h4,if_neg h7]at hsc
 cases hsc)
end Go.Proofs.YtkafjblfjdpdaaaGreatDoor
