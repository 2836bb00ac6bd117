/-
  WALK: print.printer's value: what it writes of a tree.
  WALK: the law ValueOrders, over what small answers.
  WALK: the law ValueSorts.
  PLAIN MATHEMATICS: how long a value's text is; what Compact, Canon, Pretty answer.
-/
import Derived.Test.YtkafjblfjdpdaaaGreatDoorPrD
import Derived.Test.YtkafjblfjdpdaaaGreatDoorVtUB
import Derived.Test.YtkafjblfjdpdaaaGreatDoorVtNT
import Derived.Test.YtkafjblfjdpdaaaGreatDoorVtRD
namespace Go.Proofs.YtkafjblfjdpdaaaGreatDoor
open Go.RowKit
mutual
def prB(ls:Bool)(n:Nat):Nat→Vl→Bs
 |lev,.mk k t ks is=>
  if k=1 then [110,117,108,108] else if k=4 then qtB t else if k=5 then listB ls n lev 91 93 (prBs ls n (lev+1) is)
  else if k=6 then listB ls n lev 123 125 (List.zipWith (memB ls) ks (prBs ls n (lev+1) is)) else t
def prBs(ls:Bool)(n:Nat):Nat→List Vl→List Bs
 |_,[]=> []
 |lev,x::r=>prB ls n lev x::prBs ls n lev r
end
theorem prBs_map(ls:Bool)(n lev:Nat): ∀l:List Vl,prBs ls n lev l=l.map (prB ls n lev)
 | []=>rfl
 |x::l=>by simp only[prBs,List.map_cons,prBs_map ls n lev l]
theorem prB_mk(ls:Bool)(n lev:Nat)(k:Int)(t:Bs)(ks:List Bs)(is:List Vl):prB ls n lev (.mk k t ks is)=
 if k=1 then [110,117,108,108] else if k=4 then qtB t else if k=5 then listB ls n lev 91 93 (is.map (prB ls n (lev+1)))
 else if k=6 then listB ls n lev 123 125 (List.zipWith (memB ls) ks (is.map (prB ls n (lev+1)))) else t:=by
 simp only[prB,prBs_map]
def PrOk(v:Vl):Prop:=(v.k=6→v.ks.length=v.is.length)∧v.t.length≤1099511627776∧ ∀x∈v.ks,x.length≤1099511627776
theorem enter_one(args:Array Value)(w:World):(callFunc 135 args).run Tryz.prog w= .ok (.enter 135 args) w:=by kernel_rfl
theorem enter_named(args:Array Value)(w:World):(callFunc 136 args).run Tryz.prog w= .ok (.enter 136 args) w:=by kernel_rfl
set_option maxHeartbeats 8000000 in
set_option maxRecDepth 1000000 in
theorem pvalue {w0:World} (b:Nat)(ls:Bool)(n:Nat)(hn:n≤1000)(hT:tabs w0): ∀(x:Vt) (l:Bs) (lev:Nat) (w:World),x.Ok w0→x.m.All PrOk→Below w0.heap.size w0 w→Prn w0.heap.size b l ls (n:Int) w→lev+x.m.depth≤999999→l.length+(prB ls n lev x.m).length≤140737488355328→
 Calls Tryz.prog 89 #[.pointer (some ⟨b,0,none⟩),x.v,.int .i64 (lev:Int)] w (PrPost w0.heap.size b (l++prB ls n lev x.m) ls (n:Int) w):=Vt.ind (fun k t ks o c is ih l lev w hok hal hb h hd hl=>by
 obtain⟨ko,kc,kl⟩:=ks
 have hok':=hok
 have hil:=hok.hl
 have hic:=hok.hc
 have hk:=hok.hk
 unfold maxLen at hic
 rw[Vt.m_mk]at *
 rw[Vt.v_mk']at *
 simp only at *
 obtain⟨hky,htx,hkx⟩:=hal.here
 simp only[Vl.k,Vl.t,Vl.ks,Vl.is,List.length_map]at hky htx hkx
 have hali:=Vl.All.items hal
 simp only[Vl.depth]at hd
 have hgr: ∀W,Below w.heap.size w W→Below w0.heap.size w0 W:=fun W hW=>hb.trans (hW.mono hb.size)
 have hd1:((lev+1:Nat):Int)=(lev:Int)+1:=by omega
 have hlev:lev≤999998:=by omega
 have HIH: ∀(j:Nat) (hj:j<is.length) (l':Bs) (W:World),Below w0.heap.size w0 W→Prn w0.heap.size b l' ls (n:Int) W→l'.length+(prB ls n (lev+1) is[j].m).length≤140737488355328→Calls Tryz.prog 89 #[.pointer (some ⟨b,0,none⟩),is[j].v,.int .i64 ((lev:Int)+1)] W (PrPost w0.heap.size b (l'++prB ls n (lev+1) is[j].m) ls (n:Int) W):=fun j hj l' W h1 h2 h3=>by
  have hm:is[j]∈is:=List.getElem_mem hj
  have:=ih is[j] hm l' (lev+1) W (hok'.item j hj) (hali _ (List.mem_map.2 ⟨_,hm,rfl⟩)) h1 h2 (by have:=Vl.depths_le is[j].m (List.mem_map.2 ⟨_,hm,rfl⟩);omega) h3
  rwa [hd1]at this
 have HS:=hq (fun (t':Bs) W (hW:Below w.heap.size w W) (h1:l.length+t'.length≤140737488355328)=>(pstring w0.heap.size b l t' ls (n:Int) W (h.grow hW) h1 (hgr W hW).size).mono (fun e W' hh=>(⟨hh.1,hh.2.after hW hb.size⟩:(∃m,e=Ending.returned (.tuple #[.int .i64 m,.nilIface]))∧PrW w0.heap.size b (l++t') ls (n:Int) w W')))
 have HQ:Hq (∀W,Below w.heap.size w W→l.length+(qtB t).length≤140737488355328→Calls Tryz.prog 133 #[.pointer (some ⟨b,0,none⟩),.string (st t)] W (PrPost w0.heap.size b (l++qtB t) ls (n:Int) w)):=hq (fun W hW h1=>(pquoted w0.heap.size b l t ls (n:Int) W (tabs_below hT (hgr W hW) (tabs_size hT).1 (tabs_size hT).2) (h.grow hW) htx h1 (hgr W hW).size).mono (fun e W' hh=>⟨hh.1,hh.2.after hW hb.size⟩))
 have HL5:Hq (∀W,Below w.heap.size w W→l.length+(listB ls n lev 91 93 ((is.map Vt.m).map (prB ls n (lev+1)))).length≤140737488355328→Calls Tryz.prog 134 #[.pointer (some ⟨b,0,none⟩),.string (st [91]),.string (st [93]),.int .i64 (is.length:Int),.int .i64 (lev:Int),.func (.func 135) #[.agg #[.pointer (some ⟨b,0,none⟩),.int .i64 k,.string (st t),.slice ko kl.length kc,.slice o is.length c]] #[]] W (PrPost w0.heap.size b (l++listB ls n lev 91 93 ((is.map Vt.m).map (prB ls n (lev+1)))) ls (n:Int) w)):=hq (fun W hW h1=>by
  have:=plist (w0:=w0) b l ls n lev 91 93 ((is.map Vt.m).map (prB ls n (lev+1))) 135 (.agg #[.pointer (some ⟨b,0,none⟩),.int .i64 k,.string (st t),.slice ko kl.length kc,.slice o is.length c]) W enter_one (fun j hj l' W' h2 h3 h4=>by
   have hj':j<is.length:=by simpa using hj
   have e1:((is.map Vt.m).map (prB ls n (lev+1)))[j]=prB ls n (lev+1) is[j].m:=by simp
   rw[e1]at h4 ⊢
   exact pone b l' _ ls (n:Int) ((lev:Int)+1) k t ko kc kl o c is j hj' W' hok' h2 h3 (fun W'' h5 h6=>HIH j hj' l' W'' h5 h6 h4)) (hgr W hW) (h.grow hW) hn (by omega) (by simp;omega) h1
  rw[List.length_map,List.length_map]at this
  exact this.mono (fun e W' hh=>⟨hh.1,hh.2.after hW hb.size⟩))
 have HL6:Hq (∀W,k=6→Below w.heap.size w W→l.length+(listB ls n lev 123 125 (List.zipWith (memB ls) kl ((is.map Vt.m).map (prB ls n (lev+1))))).length≤140737488355328→Calls Tryz.prog 134 #[.pointer (some ⟨b,0,none⟩),.string (st [123]),.string (st [125]),.int .i64 (is.length:Int),.int .i64 (lev:Int),.func (.func 136) #[.agg #[.pointer (some ⟨b,0,none⟩),.int .i64 k,.string (st t),.slice ko kl.length kc,.slice o is.length c]] #[]] W (PrPost w0.heap.size b (l++listB ls n lev 123 125 (List.zipWith (memB ls) kl ((is.map Vt.m).map (prB ls n (lev+1))))) ls (n:Int) w)):=hq (fun W hk6 hW h1=>by
  have hkl:=hky hk6
  have hzl:(List.zipWith (memB ls) kl ((is.map Vt.m).map (prB ls n (lev+1)))).length=is.length:=by simp;omega
  have:=plist (w0:=w0) b l ls n lev 123 125 (List.zipWith (memB ls) kl ((is.map Vt.m).map (prB ls n (lev+1)))) 136 (.agg #[.pointer (some ⟨b,0,none⟩),.int .i64 k,.string (st t),.slice ko kl.length kc,.slice o is.length c]) W enter_named (fun j hj l' W' h2 h3 h4=>by
   have hj':j<is.length:=by rwa [hzl]at hj
   have hjk:j<kl.length:=by omega
   have e1:(List.zipWith (memB ls) kl ((is.map Vt.m).map (prB ls n (lev+1))))[j]=memB ls kl[j] (prB ls n (lev+1) is[j].m):=by simp
   rw[e1]at h4 ⊢
   exact pnamed b l' _ ls (n:Int) ((lev:Int)+1) k t ko kc kl o c is j hj' hjk W' hok' hT h2 h3 (hkx _ (List.getElem_mem hjk)) h4 (fun l'' W'' h5 h6 h7=>HIH j hj' l'' W'' h5 h6 h7)) (hgr W hW) (h.grow hW) hn (by omega) (by omega) h1
  rw[hzl]at this
  exact this.mono (fun e W' hh=>⟨hh.1,hh.2.after hW hb.size⟩))
 have hpr:=prB_mk ls n lev k t kl (is.map Vt.m)
 have HP:Hq (∀(q:Bs) W',l++prB ls n lev (.mk k t kl (is.map Vt.m))=l++q→PrW w0.heap.size b (l++q) ls (n:Int) w W'→PrPost w0.heap.size b (l++prB ls n lev (.mk k t kl (is.map Vt.m))) ls (n:Int) w (.returned (.tuple #[])) W'):=hq (fun q W' he h2=>⟨rfl,he▸h2⟩)
 have HLN:=hq hl
 generalize PrPost w0.heap.size b (l++prB ls n lev (.mk k t kl (is.map Vt.m))) ls (n:Int) w=PP at *
 generalize prB ls n lev (.mk k t kl (is.map Vt.m))=PB at *
 have HPR:=hq hpr
 have HB0:=hq (below_alloc w (.cells #[.int .i64 k,.string (st t),.slice ko kl.length kc,.slice o is.length c] 26))
 have hW0:=Whole.made w 26 #[.int .i64 k,.string (st t),.slice ko kl.length kc,.slice o is.length c]
 obtain⟨c0,c1,c2,c3⟩:=four_cells hW0
 clear hok hok' ih hal hali hgr HIH hpr hl hb h hky htx hkx hT hd hW0 hd1
 go_enter Tryz.func89,Tryz.ntmps89
 go_upto_region 1 with fail
 generalize w.heap.size=g at c0 c1 c2 c3
 generalize (w.alloc (.cells #[.int .i64 k,.string (st t),.slice ko kl.length kc,.slice o is.length c] 26))=V0 at *
 have hmf: ∀(fn:Fn) (first cap:Array Value) (w:World),(Instr.makeFunc fn first cap).run Tryz.prog w= .ok (.func fn first cap) w:=fun _ _ _ _=>rfl
 by_cases hk1:k=1
 ·have HE:Hq (PB=[110,117,108,108]):=hq (by rw[HPR.o,if_pos hk1])
  have HC:=hq (HS.o [110,117,108,108] V0 HB0.o (by rw[←HE.o];exact HLN.o))
  have HV:=hq (fun W'=>HP.o [110,117,108,108] W' (by rw[HE.o]))
  clear HS HQ HL5 HL6 HP HPR HLN HE
  go_wp2_with fail
  refine HC.o.mono ?_
  rintro e w2 ⟨⟨m,rfl⟩,h2⟩
  have HU:=hq (HV.o w2 h2)
  clear HV HC h2
  go_wp2_with fail
  first
   |exact HU.o
   |(go_end0
     exact HU.o)
 rw[if_neg hk1]at HPR
 by_cases hk4:k=4
 ·have HE:Hq (PB=qtB t):=hq (by rw[HPR.o,if_pos hk4])
  have HC:=hq (HQ.o V0 HB0.o (by rw[←HE.o];exact HLN.o))
  have HV:=hq (fun W'=>HP.o (qtB t) W' (by rw[HE.o]))
  clear HS HQ HL5 HL6 HP HPR HLN HE
  generalize qtB t=Q at *
  go_wp2_with fail
  refine HC.o.mono ?_
  rintro e w2 ⟨rfl,h2⟩
  have HU:=hq (HV.o w2 h2)
  clear HV HC h2
  go_wp2_with fail
  first
   |exact HU.o
   |(go_end0
     exact HU.o)
 rw[if_neg hk4]at HPR
 by_cases hk5:k=5
 ·have HE:Hq (PB=listB ls n lev 91 93 ((is.map Vt.m).map (prB ls n (lev+1)))):=hq (by rw[HPR.o,if_pos hk5])
  have HC:=hq (HL5.o V0 HB0.o (by rw[←HE.o];exact HLN.o))
  have HV:=hq (fun W'=>HP.o (listB ls n lev 91 93 ((is.map Vt.m).map (prB ls n (lev+1)))) W' (by rw[HE.o]))
  clear HS HQ HL5 HL6 HP HPR HLN HE
  generalize listB ls n lev 91 93 ((is.map Vt.m).map (prB ls n (lev+1)))=Q at *
  clear hk1 hk4
  have hk1: ¬k=1:=by omega
  have hk4: ¬k=4:=by omega
  rw[hk5]at HC
  go_wp2_with fail
  refine HC.o.mono ?_
  rintro e w2 ⟨rfl,h2⟩
  have HU:=hq (HV.o w2 h2)
  clear HV HC h2
  go_wp2_with fail
  first
   |exact HU.o
   |(go_end0
     exact HU.o)
 rw[if_neg hk5]at HPR
 by_cases hk6:k=6
 ·have HE:Hq (PB=listB ls n lev 123 125 (List.zipWith (memB ls) kl ((is.map Vt.m).map (prB ls n (lev+1))))):=hq (by rw[HPR.o,if_pos hk6])
  have HC:=hq (HL6.o V0 hk6 HB0.o (by rw[←HE.o];exact HLN.o))
  have HV:=hq (fun W'=>HP.o (listB ls n lev 123 125 (List.zipWith (memB ls) kl ((is.map Vt.m).map (prB ls n (lev+1))))) W' (by rw[HE.o]))
  clear HS HQ HL5 HL6 HP HPR HLN HE
  generalize listB ls n lev 123 125 (List.zipWith (memB ls) kl ((is.map Vt.m).map (prB ls n (lev+1))))=Q at *
  clear hk1 hk4 hk5
  have hk1: ¬k=1:=by omega
  have hk4: ¬k=4:=by omega
  have hk5: ¬k=5:=by omega
  rw[hk6]at HC
  go_wp2_with fail
  refine HC.o.mono ?_
  rintro e w2 ⟨rfl,h2⟩
  have HU:=hq (HV.o w2 h2)
  clear HV HC h2
  go_wp2_with fail
  first
   |exact HU.o
   |(go_end0
     exact HU.o)
 ·rw[if_neg hk6]at HPR
  have HC:=hq (fun W hW=>HS.o t W hW (by rw[←HPR.o];exact HLN.o))
  have HV:=hq (fun W'=>HP.o t W' (by rw[HPR.o]))
  clear HS HQ HL5 HL6 HP HPR HLN
  go_wp2_with fail
  go_region_with (go_at_call 91;refine(HC.o _ HB0.o.drew).mono ?_;rintro e w2 ⟨⟨m,rfl⟩,h2⟩;have HU:=hq (HV.o w2 h2))
  all_goals (go_wp2_with fail;first|exact HU.o|(go_end0;exact HU.o)))
end Go.Proofs.YtkafjblfjdpdaaaGreatDoor
namespace Go.Proofs.YtkafjblfjdpdaaaGreatDoor
open Go.RowKit
theorem few_fine {x:Vt} {w:World} {n:Nat} (hok:x.Ok w)(h:FewV x.m n)(hn:n≤1000000):Fine x w:=
 ⟨hok,h.sh.mono (fun v hv=>⟨Nat.le_trans hv.1 (by decide),fun k hk=>Nat.le_trans (hv.2 k hk) (by decide)⟩),Nat.le_trans (x.m.size_weight) (Nat.le_trans h.wt hn)⟩
end Go.Proofs.YtkafjblfjdpdaaaGreatDoor
namespace Go.Proofs.YtkafjblfjdpdaaaGreatDoor
open Go.RowKit
def IsM(m:Vl)(a:Value)(V:World):Prop:= ∃y:Vt,a=y.v∧y.Ok V∧y.m=m
structure Pz(w:World)(g gx gy:Nat)(CA CB CX CY:Array Value)(xs ys:Vt)(W:World):Prop where
 lo:Below w.heap.size w W
 a:Whole W g 26 CA
 b:Whole W (g+1) 26 CB
 x:Whole W gx 26 CX
 y:Whole W gy 26 CY
 fx:Fine xs W
 fy:Fine ys W
theorem Pz.grow {w W W':World} {g gx gy:Nat} {CA CB CX CY:Array Value} {xs ys:Vt} (h:Pz w g gx gy CA CB CX CY xs ys W)(hb:Below W.heap.size W W'):Pz w g gx gy CA CB CX CY xs ys W':=
 ⟨below_trans h.lo hb,h.a.grow hb,h.b.grow hb,h.x.grow hb,h.y.grow hb,h.fx.grow hb,h.fy.grow hb⟩
theorem Pz.drew {w W:World} {g gx gy:Nat} {CA CB CX CY:Array Value} {xs ys:Vt} (h:Pz w g gx gy CA CB CX CY xs ys W):Pz w g gx gy CA CB CX CY xs ys W.drew:=h.grow (Below.refl _ _).drew
def SrtM(m:Vl)(V:World)(e:Ending)(V':World):Prop:= ∃a:Value,e= .returned a∧Hq (IsM m a V')∧Below V.heap.size V V'
end Go.Proofs.YtkafjblfjdpdaaaGreatDoor
namespace Go.Proofs.YtkafjblfjdpdaaaGreatDoor
open Go.RowKit
theorem flat_len(ln:Bs): ∀r:List Bs,(r.flatMap fun y=>(44:UInt8)::(ln++y)).length=(r.map List.length).sum+r.length*(ln.length+1)
 | []=>by simp
 |x::r=>by
  rw[List.flatMap_cons,List.length_append,flat_len ln r]
  simp only[List.map_cons,List.sum_cons,List.length_cons,List.length_append,Nat.add_mul,Nat.one_mul]
  omega
theorem commaB_len(ln:Bs): ∀its:List Bs,(commaB ln its).length≤(its.map List.length).sum+its.length*(ln.length+1)
 | []=>by simp[commaB]
 |x::r=>by
  rw[commaB,List.length_append,flat_len]
  simp only[List.map_cons,List.sum_cons,List.length_cons,List.length_append,Nat.add_mul,Nat.one_mul]
  omega
theorem lnB_len {ls:Bool} {n lev:Nat} (hn:n≤8)(hv:lev≤1000):(lnB ls n lev).length≤8001:=by
 unfold lnB
 split
 ·have:n*lev≤8*1000:=Nat.mul_le_mul hn hv
  simp;omega
 ·simp
theorem listB_len {ls:Bool} {n lev:Nat} (o c:UInt8)(its:List Bs)(hn:n≤8)(hv:lev+1≤1000):(listB ls n lev o c its).length≤(its.map List.length).sum+its.length*8002+8003:=by
 have h1:=commaB_len (lnB ls n (lev+1)) its
 have h2:=lnB_len (ls:=ls) hn hv
 have h3:=lnB_len (ls:=ls) (lev:=lev) hn (by omega)
 have h4:its.length*((lnB ls n (lev+1)).length+1)≤its.length*8002:=Nat.mul_le_mul_left _ (by omega)
 unfold listB
 simp only[List.length_cons,List.length_append]
 split<;>simp only[List.length_nil]<;>omega
theorem qtB_len(t:Bs):(qtB t).length≤6*t.length+2:=by
 unfold qtB quoteM
 split
 ·have:=quoteB_len (st t).data.toList
  rw[st_list]at this ⊢
  simp only[List.length_append,List.length_cons,List.length_nil,List.cons_append]
  omega
 ·simp
theorem memB_len(ls:Bool)(k x:Bs)(hk:k.length≤1024):(memB ls k x).length≤x.length+6148:=by
 have:=qtB_len k
 unfold memB
 cases ls<;>simp<;>omega
theorem zip_len(ls:Bool): ∀(ks xs:List Bs),(∀k∈ks,k.length≤1024)→((List.zipWith (memB ls) ks xs).map List.length).sum≤(xs.map List.length).sum+xs.length*6148∧(List.zipWith (memB ls) ks xs).length≤xs.length
 | [],xs,_=>by simp
 |_::_,[],_=>by simp
 |k::ks,x::xs,h=>by
  obtain⟨h1,h2⟩:=zip_len ls ks xs (fun y hy=>h y (List.mem_cons_of_mem _ hy))
  have h3:=memB_len ls k x (h k List.mem_cons_self)
  simp only[List.zipWith_cons_cons,List.map_cons,List.sum_cons,List.length_cons]
  omega
theorem prB_len(ls:Bool)(n:Nat)(hn:n≤8): ∀v:Vl,v.All Sht→ ∀lev:Nat,lev+v.depth≤1000→(prB ls n lev v).length+14200≤30000*v.size:=Vl.ind (fun k t ks is ih h lev hd=>by
 obtain⟨ht,hk⟩:=h.here
 have hi:=h.items
 simp only[Vl.t,Vl.ks]at ht hk
 simp only[Vl.depth]at hd
 have hsum: ∀l:List Vl,(∀x∈l,x∈is)→((l.map (prB ls n (lev+1))).map List.length).sum+l.length*14200≤30000*Vl.sizes l:=fun l=>by
  induction l with
  |nil=>intro _;simp[Vl.sizes]
  |cons x l ihl=>
   intro hl
   have h1:=ihl (fun y hy=>hl y (List.mem_cons_of_mem _ hy))
   have hx:=hl x List.mem_cons_self
   have h2:=ih x hx (hi x hx) (lev+1) (by have:=Vl.depths_le x hx;omega)
   simp only[List.map_cons,List.sum_cons,List.length_cons,Vl.sizes]
   omega
 have hs:=hsum is (fun x hx=>hx)
 have hsz:(Vl.mk k t ks is).size=Vl.sizes is+1:=by simp only[Vl.size];omega
 rw[prB_mk,hsz,Nat.mul_add]
 split
 ·simp only[List.length_cons,List.length_nil];omega
 split
 ·have:=qtB_len t;omega
 split
 ·have:=listB_len (ls:=ls) (n:=n) (lev:=lev) 91 93 (is.map (prB ls n (lev+1))) hn (by omega)
  rw[List.length_map]at this
  omega
 split
 ·have h1:=listB_len (ls:=ls) (n:=n) (lev:=lev) 123 125 (List.zipWith (memB ls) ks (is.map (prB ls n (lev+1)))) hn (by omega)
  obtain⟨h2,h3⟩:=zip_len ls ks (is.map (prB ls n (lev+1))) hk
  rw[List.length_map]at h2 h3
  omega
 ·omega)
theorem right_good {v:Vl} (h:rightM v=true):Good v∧v.size≤4096∧v.depth≤32∧v.k≠7:=by
 unfold rightM at h
 simp only[Bool.and_eq_true,decide_eq_true_eq]at h
 obtain⟨h1,h2,h3⟩:=h
 refine⟨?_,h1,h2,?_⟩
 ·rw[Vl.allB_and,Bool.and_eq_true]at h3
  exact h3.1
 ·obtain ⟨k,t,ks,is⟩:=v
  simp only[Vl.allB,Bool.and_eq_true,decide_eq_true_eq]at h3
  exact h3.1.2
theorem good_prok {v:Vl}:Good v→v.All Sht→v.All PrOk:=Vl.ind (P:=fun v=>Good v→v.All Sht→v.All PrOk) (fun k t ks is ih hg hs=> .mk k t ks is (by
 obtain⟨h1,h2⟩:=hs.here
 simp only[Vl.t,Vl.ks]at h1 h2
 refine⟨fun h6=> ?_,?_,fun x hx=> ?_⟩
 ·simp only[Vl.k,Vl.ks,Vl.is]at h6 ⊢;exact(hg.obj h6).1
 ·simp only[Vl.t];omega
 ·simp only[Vl.ks]at hx;have:=h2 x hx;omega) (fun x hx=>ih x hx (hg.items x hx) (hs.items x hx))) v
theorem decM_nil:decM []=false:=by decide
theorem prB_ne(ls:Bool)(n lev:Nat) {v:Vl} (h:rightM v=true):prB ls n lev v≠ []:=by
 obtain⟨hg,_,_,h7⟩:=right_good h
 obtain⟨k,t,ks,is⟩:=v
 have hn:=hg.node
 simp only[Vl.k]at h7
 rw[prB_mk]
 rw[show nodeM (.mk k t ks is)=if k=5 then decide (t=[])&&decide (ks=[]) else if k=6 then decide (t=[])&&membersM ks is.length else(decide (ks=[])&&decide (is=[]))&&scalarM k t from rfl]at hn
 split
 ·simp
 split
 ·rename_i h1 h4
  subst h4
  simp[scalarM]at hn
  unfold qtB quoteM
  rw[if_pos hn.2]
  simp
 split
 ·simp[listB]
 split
 ·simp[listB]
 ·rename_i h1 h4 h5 h6
  rw[if_neg h5,if_neg h6]at hn
  simp only[Bool.and_eq_true]at hn
  have hs:=hn.2
  unfold scalarM at hs
  rw[if_neg h1]at hs
  intro ht
  subst ht
  by_cases h2:k=2
  ·rw[if_pos h2]at hs;simp at hs
  rw[if_neg h2]at hs
  by_cases h3:k=3
  ·rw[if_pos h3,decM_nil]at hs;cases hs
  rw[if_neg h3,if_neg h4,if_neg h7]at hs
  cases hs
def compactM(v:Vl):Bs×Int:=if rightM v=true then(prB false 0 0 v,0) else([],1)
def canonM(v:Vl):Bs×Int:=compactM (if openM v=true then sortV v else zeroL)
def prettyM(v:Vl)(i lv:Int):Bs×Int:=if rightM v=true∧0≤i∧i≤8∧0≤lv∧lv≤32 then(prB true i.toNat lv.toNat v,0) else([],1)
def TextP(r:Bs×Int)(w:World)(e:Ending)(w':World):Prop:=e= .returned (.tuple #[.string (st r.1),.int .i64 r.2])∧Below w.heap.size w w'
theorem prB_fits {v:Vl} (hr:rightM v=true)(hs:v.All Sht)(ls:Bool) {n lev:Nat} (hn:n≤8)(hv:lev≤32):(prB ls n lev v).length≤140737488355328:=by
 obtain⟨_,h1,h2,_⟩:=right_good hr
 have:=prB_len ls n hn v hs lev (by omega)
 omega
end Go.Proofs.YtkafjblfjdpdaaaGreatDoor
