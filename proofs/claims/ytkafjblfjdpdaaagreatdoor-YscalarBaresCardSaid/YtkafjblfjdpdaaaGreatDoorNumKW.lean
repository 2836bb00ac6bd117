/-
  PLAIN MATHEMATICS: Compare of right numbers is 0 of equal ones alone; it is an order; of ints that of ints.
  PLAIN MATHEMATICS: which trees are values, and their order.
  PLAIN MATHEMATICS: the items' numbers in the order of their keys.
  WALKS: the document's parts of a literal.
  WALKS: the document's Parse.
  WALK: the document's Decimal.
  WALKS: the document's Text and Of.
  WALK: the small cases of layer 2.
  WALKS: the document's Compare of layer 2, and the law NumberCompares.
  WALKS: number.Int.
  WALKS: the document's Int.
-/
import Derived.Test.YtkafjblfjdpdaaaGreatDoorNumK
import Derived.Test.YtkafjblfjdpdaaaGreatDoorBas
import Derived.Test.YtkafjblfjdpdaaaGreatDoorRun
import Derived.Shelf.SlSortCmp.Insertion
import Derived.Deep.LoopGhost
import Derived.Lib.ConvBytes
import Derived.Lib.AtoiErrMem
import Derived.Deep.CutRange
import Derived.IntWalk
import Derived.Lib.ItoaLen
import Derived.Deep.RegionHeld3
namespace Go.Proofs.YtkafjblfjdpdaaaGreatDoor
open Go.RowKit
end Go.Proofs.YtkafjblfjdpdaaaGreatDoor
namespace Go.Proofs.YtkafjblfjdpdaaaGreatDoor
def decM(t:Bs):Bool:=decide ((parseM t).2=0)&&decide (textM (parseM t).1=t)
def holeM(t:Bs):Bool:=decM t&&((intM (parseM t).1).2&&decide (0≤(intM (parseM t).1).1))
def membersM(ks:List Bs)(n:Nat):Bool:=decide (ks.length=n)&&(decide (ks.length≤4096)&&(ks.all (fun k=>(valid (st k)).2)&&decide ks.Nodup))
def scalarM(k:Int)(t:Bs):Bool:=
 if k=1 then decide (t=[])
 else if k=2 then decide (t=[116,114,117,101])||decide (t=[102,97,108,115,101])
 else if k=3 then decM t
 else if k=4 then(valid (st t)).2
 else if k=7 then holeM t
 else false
def nodeM(v:Vl):Bool:=
 if v.k=5 then decide (v.t=[])&&decide (v.ks=[])
 else if v.k=6 then decide (v.t=[])&&membersM v.ks v.is.length
 else(decide (v.ks=[])&&decide (v.is=[]))&&scalarM v.k v.t
def openM(v:Vl):Bool:=decide (v.size≤4096)&&(decide (v.depth≤32)&&v.allB nodeM)
def rightM(v:Vl):Bool:=decide (v.size≤4096)&&(decide (v.depth≤32)&&v.allB (fun x=>nodeM x&&decide (x.k≠7)))
abbrev cmpB:Bs→Bs→Int:=Lib.compareBytes
def numT(t:Bs):Dec:=(parseM t).1
mutual
def cmpV:Vl→Vl→Int
 | .mk k t ks is,w=>
   if k≠w.k then(if k<w.k then -1 else 1)
   else if k=3 then compareM (numT t) (numT w.t)
   else if k=5 then cmpL is w.is
   else if k=6 then thenM (lexM cmpB ks w.ks) (cmpL is w.is)
   else cmpB t w.t
def cmpL:List Vl→List Vl→Int
 | [],[]=>0
 | [],_::_=>-1
 |_::_,[]=>1
 |x::a,y::b=>if cmpV x y≠0 then cmpV x y else cmpL a b
end
def bodyV(k:Int)(v w:Vl):Int:=
 if k=3 then compareM (numT v.t) (numT w.t)
 else if k=5 then lexM cmpV v.is w.is
 else if k=6 then thenM (lexM cmpB v.ks w.ks) (lexM cmpV v.is w.is)
 else cmpB v.t w.t
mutual
def sortV:Vl→Vl
 | .mk k t ks is=>if k=6 then .mk k t ((isort cmpB (ks.zip (sortL is))).map (·.1)) ((isort cmpB (ks.zip (sortL is))).map (·.2)) else .mk k t [] (sortL is)
def sortL:List Vl→List Vl
 | []=> []
 |v::l=>sortV v::sortL l
end
def compM(a b:Vl):Int:=
 if openM a=true then(if openM b=true then cmpV (sortV a) (sortV b) else 1)
 else(if openM b=true then -1 else 0)
def sameM(a b:Vl):Bool:=openM a&&(openM b&&decide (cmpV (sortV a) (sortV b)=0))
end Go.Proofs.YtkafjblfjdpdaaaGreatDoor
namespace Go.Proofs.YtkafjblfjdpdaaaGreatDoor
structure ByKey(ks:List Bs)(n:Nat)(x:List Nat):Prop where
 perm:x.Perm (List.range n)
 sorted:x.Pairwise (fun i j=>cmpB (keyAt ks i) (keyAt ks j)<0)
theorem ByKey.lt {ks:List Bs} {n:Nat} {x:List Nat} (h:ByKey ks n x): ∀i∈x,i<n:=fun _i hi=>List.mem_range.1 (h.perm.mem_iff.1 hi)
theorem ByKey.len {ks:List Bs} {n:Nat} {x:List Nat} (h:ByKey ks n x):x.length=n:=by rw[h.perm.length_eq,List.length_range]
def cfK(ks:List Bs)(n:Nat)(i j:Fin n):Int:=cmpB (keyAt ks i.val) (keyAt ks j.val)
end Go.Proofs.YtkafjblfjdpdaaaGreatDoor
namespace Go.Proofs.YtkafjblfjdpdaaaGreatDoor
open Go.RowKit
def RPartsPost(r:RParts)(w:World)(e:Ending)(w':World):Prop:=e= .returned (.tuple #[.bool r.neg,.string (st r.whole),.string (st r.frac),.bool r.down,.string (st r.exp),.bool r.ok])∧w'=w
def zeroAhead:Bs→Bool
 |c::_::_=>(c.toNat:Int)==48
 |_=>false
def noughtAhead:Bs→Bool
 |c::_=>(c.toNat:Int)==48
 |_=>false
def PPost(r:Dec×Int)(w:World)(e:Ending)(w':World):Prop:=e= .returned (.tuple #[r.1.val,.int .i64 r.2])∧Below w.heap.size w w'
def DcmlPost(s:ByteArray)(w:World)(e:Ending)(w':World):Prop:=e= .returned (.string s)∧ ∃m,w'=w.drewN m
def Dcml(n:Int):Prop:= ∀w:World,Calls Tryz.prog 88 #[.int .i64 n] w fun e w'=>e= .returned (.string (st (Lib.itoa n)))∧ ∃m,w'=w.drewN m
def Trio(w:World)(g h k:Nat)(W:World):Prop:=
 Below w.heap.size w W∧Whole W g 59 #[.bool false,.string (st [49,50,53]),.int .i64 0]∧Whole W h 59 #[.bool false,.string (st []),.int .i64 0]∧Whole W k 59 #[.bool false,.string (st [49]),.int .i64 2]
theorem Trio.grow {w:World} {g h k:Nat} {W W':World} (t:Trio w g h k W)(hb:Below W.heap.size W W'):Trio w g h k W':=⟨below_trans t.1 hb,t.2.1.grow hb,t.2.2.1.grow hb,t.2.2.2.grow hb⟩
theorem Trio.drew {w:World} {g h k:Nat} {W:World} (t:Trio w g h k W):Trio w g h k W.drew:=⟨t.1.drew,t.2.1,t.2.2.1,t.2.2.2⟩
def TrioCells(g h k:Nat)(W:World):Prop:=
 W.cell? ⟨g,0,none⟩=some (.bool false)∧W.cell? ⟨g,1,none⟩=some (.string (st [49,50,53]))∧W.cell? ⟨g,2,none⟩=some (.int .i64 0)∧
 W.cell? ⟨h,0,none⟩=some (.bool false)∧W.cell? ⟨h,1,none⟩=some (.string (st []))∧W.cell? ⟨h,2,none⟩=some (.int .i64 0)∧
 W.cell? ⟨k,0,none⟩=some (.bool false)∧W.cell? ⟨k,1,none⟩=some (.string (st [49]))∧W.cell? ⟨k,2,none⟩=some (.int .i64 2)
theorem Trio.cells {w:World} {g h k:Nat} {W:World} (t:Trio w g h k W):TrioCells g h k W:=by
 obtain⟨a0,a1,a2⟩:=three_cells t.2.1
 obtain⟨b0,b1,b2⟩:=three_cells t.2.2.1
 obtain⟨c0,c1,c2⟩:=three_cells t.2.2.2
 exact⟨a0,a1,a2,b0,b1,b2,c0,c1,c2⟩
theorem right_digs {n:Bool} {D:Bs} {E:Int} (h:Dec.right ⟨n,D,E⟩=true):D.all isDig=true:=by
 by_cases hz:Dec.mk n D E= .zero
 ·have:=congrArg Dec.digits hz
  simp only[Dec.zero]at this
  rw[this];rfl
 ·exact (right_dig h hz).2.1
def ErrAt(w:World):Prop:=5<w.heap.size∧ ∃te pe,w.cell? ⟨5,0,none⟩=some (.iface te pe)
theorem ErrAt.grow {w W:World} (h:ErrAt w)(hb:Below w.heap.size w W):ErrAt W:=by
 obtain⟨h1,te,pe,h2⟩:=h
 exact⟨Nat.lt_of_lt_of_le h1 hb.size,te,pe,(hb.cell (p:=⟨5,0,none⟩) h1).trans h2⟩
def One(w:World)(na:Bool)(DA:Bs)(EA:Int)(W:World):Prop:=
 Below w.heap.size w W∧Whole W w.heap.size 59 #[.bool na,.string (st DA),.int .i64 EA]
theorem One.grow {w:World} {na:Bool} {DA:Bs} {EA:Int} {W W':World} (h:One w na DA EA W)(hb:Below W.heap.size W W'):One w na DA EA W':=⟨below_trans h.1 hb,h.2.grow hb⟩
theorem One.drew {w:World} {na:Bool} {DA:Bs} {EA:Int} {W:World} (h:One w na DA EA W):One w na DA EA W.drew:=⟨h.1.drew,h.2⟩
theorem One.cells {w:World} {na:Bool} {DA:Bs} {EA:Int} {W:World} (h:One w na DA EA W):
 W.cell? ⟨w.heap.size,0,none⟩=some (.bool na)∧W.cell? ⟨w.heap.size,1,none⟩=some (.string (st DA))∧W.cell? ⟨w.heap.size,2,none⟩=some (.int .i64 EA):=three_cells h.2
theorem one_made(w:World)(na:Bool)(DA:Bs)(EA:Int):One w na DA EA (w.alloc (.cells #[.bool na,.string (st DA),.int .i64 EA] 59)):=⟨below_alloc w _,Whole.made w _ _⟩
theorem intV_no(neg:Bool)(v:Int):(intV neg v).2=false→(intV neg v).1=0:=by
 cases neg with
 |true=>
  rw[intV_t]
  split
  ·intro h;cases h
  ·intro _;rfl
 |false=>
  rw[intV_f]
  split
  ·intro h;cases h
  ·intro _;rfl
def IntPost(r:Int×Bool)(w:World)(e:Ending)(w':World):Prop:=e= .returned (.tuple #[.int .i64 r.1,.bool r.2])∧Below w.heap.size w w'
theorem IntPost.mk {r:Int×Bool} {a:Int} {b:Bool} {w w':World} (h:r=(a,b))(hb:Below w.heap.size w w'):IntPost r w (.returned (.tuple #[.int .i64 a,.bool b])) w':=⟨by rw[h],hb⟩
def PiPost(r:Int×Bool)(w:World)(e:Ending)(w':World):Prop:=
 Below w.heap.size w w'∧((r.2=true∧e= .returned (.tuple #[.int .i64 r.1,.nilIface]))∨(r.2=false∧ ∃v N,e= .returned (.tuple #[.int .i64 v,.iface 241 (.pointer (some ⟨N,0,none⟩))])))
theorem parseInt_any(neg:Bool)(T:Bs)(w:World)(hT:T.all isDig=true)(hl:T.length≤19)(h0:T≠ [])(hE:ErrAt w):
 Calls Tryz.prog 179 #[.string (st ((if neg=true then [45] else [])++T)),.int .i64 10,.int .i64 64] w (PiPost (intV neg (numOf T)) w):=by
 have hp:=parseIntB_dig neg T hT hl h0
 have hsz:(st ((if neg=true then [45] else [])++T)).size≤20:=by
  rw[st_size];cases neg<;>simp<;>omega
 by_cases hc:(intV neg (numOf T)).2=true
 ·rw[if_pos hc]at hp
  refine(Tryz.strconv_ParseInt_10_at64_ok _ (by omega) _ (by rw[st_list];exact hp) w).mono ?_
  rintro e w' ⟨rfl,hw⟩
  refine⟨?_,.inl ⟨hc,rfl⟩⟩
  rcases hw with h|⟨t,h⟩
  ·rw[h];exact Below.refl _ _
  ·rw[h];exact Lib.bytesWorld_below w _ t
 ·rw[if_neg hc]at hp
  obtain⟨_,te,pe,hcell⟩:=hE
  refine(Tryz.strconv_ParseInt_10_at64_range _ (by omega) (by rw[st_list];exact hp) _ w hcell (.inr ⟨te,pe,rfl⟩)).mono ?_
  rintro e w' ⟨N,rfl,_,_,hb⟩
  exact⟨hb,.inr ⟨by simpa using hc,_,N,rfl⟩⟩
set_option maxHeartbeats 2000000 in
set_option maxRecDepth 1000000 in
theorem int_any(neg:Bool)(D:Bs)(E:Int)(w:World)(hD:D.length≤1099511627776)(hE:-9223372036854775808≤E∧E≤9223372036854775807)(hEr:ErrAt w):
 Calls Tryz.prog 144 #[.agg #[.bool neg,.string (st D),.int .i64 E]] w (IntPost (intM ⟨neg,D,E⟩) w):=by
 have hrr:=fun W=>right_any neg D E W hD hE
 have hbd:= @right_bd neg D E
 have hdg:= @right_digs neg D E
 have hze:Dec.right ⟨neg,D,E⟩=true→D=[]→neg=false:=fun h h0=>by
  subst h0
  cases neg with
  |false=>rfl
  |true=>
   exfalso
   unfold Dec.right at h
   rw[if_neg (fun h=>by have:=congrArg Dec.neg h;cases this),if_pos (.inl (by simp))]at h
   cases h
 generalize hR:intM ⟨neg,D,E⟩=R
 have HR:=hq hR
 clear hR
 unfold intM at HR
 simp only at HR
 generalize Dec.right ⟨neg,D,E⟩=B at *
 have HRR:=hq hrr
 have HBD:=hq hbd
 have HDG:=hq hdg
 have HZE:=hq hze
 have HER:=hq hEr
 clear hrr hbd hdg hze hEr
 go_enter Tryz.func144,Tryz.ntmps144
 have hT:=one_made w neg D E
 go_wp2_with fail
 refine(HRR.o _).mono ?_
 rintro e w1 ⟨rfl,hb1⟩
 replace hT:=hT.grow hb1
 clear hb1
 obtain⟨c0,c1,c2⟩:=hT.cells
 cases B with
 |false=>
  have HN:=hq (HR.o.symm.trans (if_neg (fun h=>by cases h.1)))
  clear HR HBD HDG HZE
  go_wp2_with fail
  go_ret2
  exact IntPost.mk HN.o hT.1
 |true=>
  obtain⟨hl,hE1,hE2⟩:=HBD.o (by trivial)
  by_cases h0:E<0
  ·have HN:=hq (HR.o.symm.trans (if_neg (fun h=>by have:=h.2.1;omega)))
   clear HR HBD HDG HZE
   go_wp2_with fail
   go_ret2
   exact IntPost.mk HN.o hT.1
  ·by_cases h19:19<(D.length:Int)+E
   ·have HN:=hq (HR.o.symm.trans (if_neg (fun h=>by have:=h.2.2;omega)))
    clear HR HBD HDG HZE
    go_wp2_with fail
    go_ret2
    exact IntPost.mk HN.o hT.1
   ·have HN:=hq (HR.o.symm.trans (if_pos ⟨rfl,by omega,by omega⟩))
    clear HR HBD
    obtain⟨k,rfl⟩:=Int.eq_ofNat_of_zero_le (a:=E) (by omega)
    have HN2:Hq (R=intV neg (numOf (D++List.replicate k 48))):=hq HN.o
    have HA:Hq ((D++List.replicate k 48).all isDig=true):=hq (by rw[List.all_append,HDG.o (by trivial),replicate_dig];rfl)
    have hTl:(D++List.replicate k 48).length≤19:=by rw[List.length_append,List.length_replicate];omega
    have hZ:Hq (D++List.replicate k 48=[]→neg=false):=hq (fun h=>HZE.o (by trivial) (List.append_eq_nil_iff.1 h).1)
    have hrep: ∀W,Calls Tryz.prog 178 #[.string ⟨#[48]⟩,.int .i64 (k:Nat)] W fun e w'=>e= .returned (.string (st (List.replicate k 48)))∧Below W.heap.size W w':=fun W=>by
     have h:=Tryz.strings_Repeat ⟨#[48]⟩ k W (by omega) (by show 1*k≤_;omega)
     rw[show (⟨#[48]⟩:ByteArray).data.toList=[48] from rfl,repeat_nought]at h
     exact h
    have hcat:st D++st (List.replicate k 48)=st (D++List.replicate k 48):=cat_st _ _
    have hrl:(st (List.replicate k 48)).size≤19:=by rw[st_size,List.length_replicate];omega
    have hrl2:(List.replicate k (48:UInt8)).length≤19:=by rw[List.length_replicate];omega
    have hdl2:(st D).size≤1000:=by rw[st_size];exact hl
    have hsum:D.length+(List.replicate k (48:UInt8)).length≤9223372036854775807:=by rw[List.length_replicate];omega
    have hsum9:(st D).size+(st (List.replicate k (48:UInt8))).size≤9223372036854775807:=by rw[st_size,st_size];exact hsum
    have hsum3: ¬9223372036854775807<D.length+(List.replicate k (48:UInt8)).length:=by omega
    generalize D++List.replicate k 48=T at *
    generalize List.replicate k 48=Z at *
    have HREP:=hq hrep
    have HCAT:=hq hcat
    clear hrep hcat HN HDG HZE
    go_upto_region 3 with fail
    go_cut [4] (fun s wx=>s= .string (st T)∧One w neg D (k:Int) wx)
    case first=>
     have hTd:=hT.drew
     go_region_with (go_at_call 178;refine(HREP.o _).mono ?_;rintro e v ⟨rfl,hb2⟩;have hT2:One w neg D (k:Int) v:=One.grow (by assumption) hb2;obtain⟨x0,x1,x2⟩:=hT2.cells)
     all_goals go_wp2_with fail
     all_goals go_meet
     all_goals exact⟨by rw[←HCAT.o],hT2⟩
    case rest=>
     clear hT c0 c1 c2
     obtain⟨rfl,hT⟩:=hcut
     obtain⟨c0,c1,c2⟩:=hT.cells
     have hTl2:(T.length:Int)≤19:=by omega
     by_cases h0:T=[]
     ·obtain rfl:=hZ.o h0
      subst h0
      have HN:Hq (R=(0,true)):=hq HN2.o
      clear HN2
      go_wp2_with fail
      go_ret2
      exact IntPost.mk HN.o hT.1
     ·have hem:T.isEmpty=false:=by cases T with|nil=>exact absurd rfl h0|cons _ _=>rfl
      have hpi:=fun W (h:ErrAt W)=>parseInt_any neg T W HA.o hTl h0 h
      have HPI:=hq hpi
      clear hpi
      have HER2:=hq ((HER.o).grow hT.1)
      have HZ0:Hq ((intV neg (numOf T)).2=false→(intV neg (numOf T)).1=0):=hq (intV_no _ _)
      generalize intV neg (numOf T)=r at *
      obtain⟨rv,ro⟩:=r
      have HE2:Hq (st ((if neg=true then [45] else [])++T)=if neg=true then st [45]++st T else st T):=hq (by
       cases neg with
       |true=>rw[if_pos rfl,if_pos rfl,cat_st]
       |false=>rw[if_neg (by simp),if_neg (by simp)];rfl)
      go_upto_if 31 with fail
      go_cut [4] (fun s wx=>s= .string (st ((if neg=true then [45] else [])++T))∧wx=wc)
      case first=>
       cases neg with
       |true=>
        go_wp2_with fail
        go_meet
        exact⟨congrArg Value.string HE2.o.symm,rfl⟩
       |false=>
        go_wp2_with fail
        go_meet
        exact⟨congrArg Value.string HE2.o.symm,rfl⟩
      case rest=>
       obtain⟨rfl,rfl⟩:=hcut
       have hem2:((if neg=true then [45] else [])++T).isEmpty=false:=by
        cases T with
        |nil=>exact absurd rfl h0
        |cons _ _=>cases neg<;>rfl
       clear HE2 HA hZ
       have hb:=hT.1
       clear hT c0 c1 c2
       generalize (if neg=true then [45] else [])++T=U at *
       go_wp2_with fail
       refine(HPI.o _ HER2.o).mono ?_
       rintro e w3 ⟨hb3,hh⟩
       have hb':=below_trans hb hb3
       clear hb3 hb HPI HER2 HER
       rcases hh with ⟨h1,rfl⟩|⟨h1,v,N,rfl⟩
       ·simp only at h1
        subst h1
        have HN:Hq (R=(rv,true)):=hq HN2.o
        clear HN2
        go_wp2_with fail
        go_ret2
        exact IntPost.mk HN.o hb'
       ·simp only at h1
        subst h1
        have HN:Hq (R=(0,false)):=hq (by rw[HN2.o];exact congrArg (·,false) (HZ0.o rfl))
        clear HN2 HZ0
        go_wp2_with fail
        go_ret2
        exact IntPost.mk HN.o hb'
end Go.Proofs.YtkafjblfjdpdaaaGreatDoor
