/-
  WALKS: strings.Builder's methods at the head of a printer: copyCheck, WriteByte, WriteString.
-/
import Derived.Test.YtkafjblfjdpdaaaGreatDoorVlBC
set_option maxHeartbeats 2000000
set_option maxRecDepth 100000
namespace Go.Proofs.YtkafjblfjdpdaaaGreatDoor
open Go.RowKit
def PrAt(B b:Nat)(p:Value)(l:Bs)(ls:Bool)(n:Int)(w:World):Prop:=
 B<=b/\ ∃v,w.heap[b]?=some (.cells #[p,v,.bool ls,.int .i64 n] 100 (0,0))/\w.ownsRow B 5 1 v l.length (Lib.byteCells l)
def Prn(B b:Nat)(l:Bs)(ls:Bool)(n:Int)(w:World):Prop:=PrAt B b (.pointer none) l ls n w\/PrAt B b (.pointer (some ⟨b,0,none⟩)) l ls n w
def PrW(B b:Nat)(l:Bs)(ls:Bool)(n:Int)(w w':World):Prop:=Prn B b l ls n w'/\Below B w w'/\Lib.OthersKept 5 (some b) w w'
theorem PrW.trans {B b:Nat} {l l':Bs} {ls ls':Bool} {n n':Int} {w w1 w2:World} (h:PrW B b l ls n w w1)(h':PrW B b l' ls' n' w1 w2):PrW B b l' ls' n' w w2:=⟨h'.1,h.2.1.trans h'.2.1,h.2.2.trans h'.2.2⟩
theorem pr_ne:100≠5:=by decide
theorem own_kept {w:World} {B e n:Nat} {v:Value} {xs:List Value} {b:Nat} (h:w.ownsRow B e 1 v n xs) {cs:Array Value} {T:TypeId} {fr:Nat×Nat} (hb:w.heap[b]?=some (.cells cs T fr))(hne:T≠e)(p:Addr)(hp:p.block=b)(u:Value):(w.setCell p u).ownsRow B e 1 v n xs:=
 h.kept (row:=some b) ⟨rfl,rfl,rfl,by simp[World.setCell],fun k _ hk=>Below.heap_setCell _ _ _ _ (fun e=>hk (by rw[←hp,e]))⟩ (Or.inr (Lib.ownBlock_ne h hb hne))
theorem set_at {w:World} {b:Nat} {cs:Array Value} {T:TypeId} {fr:Nat×Nat} (hb:w.heap[b]?=some (.cells cs T fr))(i:Nat)(u:Value):(w.setCell ⟨b,i,none⟩ u).heap[b]?=some (.cells (cs.setIfInBounds i u) T fr):=by
 simp[World.setCell,Array.getElem?_modify,hb]
theorem PrAt.used {B b:Nat} {p:Value} {l:Bs} {ls:Bool} {n:Int} {w:World} (h:PrAt B b p l ls n w)(q:Value):PrAt B b q l ls n (w.setCell ⟨b,0,none⟩ q):=by
 obtain⟨hB,v,hb,hown⟩:=h;exact⟨hB,v,by simpa using set_at hb 0 q,own_kept hown hb pr_ne _ rfl _⟩
theorem PrAt.put {B b:Nat} {p v v':Value} {l':Bs} {ls:Bool} {n:Int} {w:World} (hB:B<=b)(hb:w.heap[b]?=some (.cells #[p,v,.bool ls,.int .i64 n] 100 (0,0)))(hown:w.ownsRow B 5 1 v' l'.length (Lib.byteCells l')):PrAt B b p l' ls n (w.setCell ⟨b,1,none⟩ v'):=
 ⟨hB,v',by simpa using set_at hb 1 v',own_kept hown hb pr_ne _ rfl _⟩
theorem PrAt.grow {B b:Nat} {p:Value} {l:Bs} {ls:Bool} {n:Int} {w w':World} (h:PrAt B b p l ls n w)(hb:Below w.heap.size w w'):PrAt B b p l ls n w':=by
 obtain⟨hB,v,hv,hown⟩:=h;refine⟨hB,v,(hb.block b (Array.getElem?_eq_some_iff.1 hv).1).trans hv,hown.1,?_⟩;rcases hown.2 with hn|⟨g,cap,cur,hv,hbg,hg,rest⟩
 ·exact .inl hn
 ·exact .inr ⟨g,cap,cur,hv,hbg,(hb.block g (Array.getElem?_eq_some_iff.1 hg).1).trans hg,rest⟩
theorem Prn.grow {B b:Nat} {l:Bs} {ls:Bool} {n:Int} {w w':World} (h:Prn B b l ls n w)(hb:Below w.heap.size w w'):Prn B b l ls n w':=h.elim (fun x=> .inl (x.grow hb)) (fun x=> .inr (x.grow hb))
theorem Prn.lt {B b:Nat} {l:Bs} {ls:Bool} {n:Int} {w:World} (h:Prn B b l ls n w):B<=b/\b<w.heap.size:=by
 rcases h with ⟨hB,v,hv,_⟩|⟨hB,v,hv,_⟩
 all_goals exact⟨hB,(Array.getElem?_eq_some_iff.1 hv).1⟩
theorem Prn.cells {B b:Nat} {l:Bs} {ls:Bool} {n:Int} {w:World} (h:Prn B b l ls n w):w.cell? ⟨b,2,none⟩=some (.bool ls)/\w.cell? ⟨b,3,none⟩=some (.int .i64 n):=by
 rcases h with ⟨hB,v,hv,_⟩|⟨hB,v,hv,_⟩
 all_goals exact⟨by rw[Lib.cell_of_heap hv];rfl,by rw[Lib.cell_of_heap hv];rfl⟩
theorem PrW.grow {B b:Nat} {l:Bs} {ls:Bool} {n:Int} {w w1 w2:World} (h:PrW B b l ls n w w1)(hb:Below w1.heap.size w1 w2)(hB:B<=w1.heap.size):PrW B b l ls n w w2:=
 ⟨h.1.grow hb,h.2.1.trans (hb.mono hB),fun k o hk hne ho=>by
  have h1:=h.2.2 k o hk hne ho;exact(hb.block k (Array.getElem?_eq_some_iff.1 h1).1).trans h1⟩
theorem prn_size:(Tryz.prog.info? 98).map (·.size)=some 2:=by kernel_rfl
theorem prn_lies:liesAt Tryz.prog Tryz.prog.depth 100 (4/Tryz.prog.cellsOf 100) 0 98 1=true:=by kernel_rfl
theorem prn_ptr:Tryz.prog.underlying 95=some (.pointer 98):=by kernel_rfl
theorem prn_uns:Tryz.prog.underlying 192=some .unsafePointer:=by kernel_rfl
theorem prn_byte:(Tryz.prog.info? 5).map (fun i=>(i.zero,i.size,i.bytes))=some (some (.int .u8 0),1,1):=by kernel_rfl
theorem pcheck_used(b:Nat)(w:World)(h0:w.cell? ⟨b,0,none⟩=some (.pointer (some ⟨b,0,none⟩))):
 Calls Tryz.prog 137 #[.pointer (some ⟨b,0,none⟩)] w fun e w'=>e= .returned (.tuple #[])/\w'=w:=by
 obtain⟨j,hj,_⟩:=Option.map_eq_some_iff.1 prn_size;have hNE:=Lib.run_neq_ptr_same (P:=Tryz.prog) w ⟨b,0,none⟩ prn_ptr hj;go_enter Tryz.func137,Tryz.ntmps137
 go_wp2
 first
  |done
  |(rw[hNE]
    go_wp2
    go_end0
    exact⟨rfl,rfl⟩)
  |(go_end0
    exact⟨rfl,rfl⟩)
theorem pcheck_fresh(b:Nat)(w:World)(h0:w.cell? ⟨b,0,none⟩=some (.pointer none))(hsh:w.shape? b=some (100,4))(hfz:w.frozen? ⟨b,0,none⟩=false):
 Calls Tryz.prog 137 #[.pointer (some ⟨b,0,none⟩)] w fun e w'=>e= .returned (.tuple #[])/\w'=w.setCell ⟨b,0,none⟩ (.pointer (some ⟨b,0,none⟩)):=by
 obtain⟨j,hj,hjs⟩:=Option.map_eq_some_iff.1 prn_size;go_enter Tryz.func137,Tryz.ntmps137
 go_wp2
 rw[Lib.run_to_unsafe w ⟨b,0,none⟩ prn_ptr prn_uns hj (by rw[hjs];decide) hsh (Nat.zero_lt_succ 3)];simp only[Result.andThen];rw[Oper.upon_value];go_wp2
 rw[run_callFunc_extern Tryz.func173 (by kernel_rfl) (by kernel_rfl) (by kernel_rfl) (e:=Extern.AbiNoEscape.same) (by kernel_rfl)];rw[Lib.run_noEscape];simp only[Result.andThen];rw[Oper.upon_value];go_wp2
 rw[Lib.run_from_unsafe w ⟨b,0,none⟩ prn_uns prn_ptr hj hsh prn_lies];simp only[Result.andThen];rw[Oper.upon_value];go_wp2
 go_end0
 exact⟨rfl,rfl⟩
theorem pcheck(B b:Nat)(l:Bs)(ls:Bool)(n:Int)(w:World)(h:Prn B b l ls n w):
 Calls Tryz.prog 137 #[.pointer (some ⟨b,0,none⟩)] w fun e w'=>e= .returned (.tuple #[])/\PrAt B b (.pointer (some ⟨b,0,none⟩)) l ls n w'/\Below B w w'/\Lib.OthersKept 5 (some b) w w':=by
 rcases h with h|h
 ·obtain ⟨hB,v,hv,hown⟩:=id h;refine(pcheck_fresh b w (by rw[Lib.cell_of_heap hv];rfl) (by simp[World.shape?,hv]) (Lib.frozen_of_heap hv 0)).mono ?_;rintro e w' ⟨rfl,rfl⟩;exact⟨rfl,h.used _,(Below.refl B w).setCell (p:=⟨b,0,none⟩) hB _,(Lib.OthersKept.refl _ _ w).setCell ⟨b,0,none⟩ rfl _⟩
 ·obtain ⟨hB,v,hv,hown⟩:=id h;refine(pcheck_used b w (by rw[Lib.cell_of_heap hv];rfl)).mono ?_;rintro e w' ⟨rfl,rfl⟩;exact⟨rfl,h,Below.refl B _,Lib.OthersKept.refl _ _ _⟩
theorem own_kind {w:World} {B:Nat} {e:TypeId} {v:Value} {n:Nat} {xs:List Value} (h:w.ownsRow B e 1 v n xs): ∀g,v.ownBlock=some g-> ∃c fz,w.heap[g]?=some (.cells c e fz):=Lib.ownsRowF_kind (World.ownsRowF_of h)
theorem pbyte(B b:Nat)(l:Bs)(ls:Bool)(n:Int)(c:UInt8)(w:World)(h:Prn B b l ls n w)(hl:l.length+1<=140737488355328)(hBw:B<=w.heap.size):
 Calls Tryz.prog 99 #[.pointer (some ⟨b,0,none⟩),.int .u8 (c.toNat:Int)] w fun e w'=>e= .returned .nilIface/\PrW B b (l++[c]) ls n w w':=by
 obtain⟨i0,hi,hz0,hz1,hz2⟩:=info_parts prn_byte;have HC:=hq (pcheck B b l ls n w h);clear h;go_enter Tryz.func99,Tryz.ntmps99
 go_wp2_with fail
 refine HC.o.mono ?_;rintro e w1 ⟨rfl,h1,hb1,hk1⟩;obtain⟨hB,v,hbk,hown⟩:=h1;have hne:=Lib.ownBlock_ne hown hbk pr_ne;have c0:w1.cell? ⟨b,0,none⟩=some (.pointer (some ⟨b,0,none⟩)):=by rw[Lib.cell_of_heap hbk];rfl
 have c1:w1.cell? ⟨b,1,none⟩=some v:=by rw[Lib.cell_of_heap hbk];rfl
 go_wp2_with (at_builtin;refine wpList_append_own _ rfl _ _ 96 rfl B 5 i0 (.int .u8 0) 1 1 (by kernel_rfl) hi hz0 hz1 hz2 rfl (by decide) _ _ _ rfl (hown.alloc _) ⟨w1.heap.size,0,none⟩ 1 1 [.int .u8 (c.toNat:Int)] rfl rfl ?c1 ?c2 ?c3 ?c4 ?c5 ?_)
 case c1=>
  intro j u hj
  match j,hj with
  |0,hj=>simp at hj;subst hj;simp[Addr.add]
 case c2=>intro u hu;simp at hu;subst hu;rfl
 case c3=>unfold maxLen;omega
 case c4=>omega
 case c5=>have:=hb1.size;simp;omega
 intro v' w2 hown' hgrow _;have hlt:b<w1.heap.size:=(Array.getElem?_eq_some_iff.1 hbk).1;have hb2:w2.heap[b]?=some (.cells #[.pointer (some ⟨b,0,none⟩),v,.bool ls,.int .i64 n] 100 (0,0)):=by
  rw[hgrow.block b (by simp;omega) (fun e=>hne e.symm),Lib.alloc_old w1 _ b hlt];exact hbk
 have d0:w2.cell? ⟨b,0,none⟩=some (.pointer (some ⟨b,0,none⟩)):=by rw[Lib.cell_of_heap hb2];rfl
 have d1:w2.cell? ⟨b,1,none⟩=some v:=by rw[Lib.cell_of_heap hb2];rfl
 have f1:w2.frozen? ⟨b,1,none⟩=false:=Lib.frozen_of_heap hb2 1;obtain⟨g,cap,rfl⟩: ∃g cap,v'= .slice (some ⟨g,0,none⟩) (l.length+1) cap:=by
  rcases hown'.2 with ⟨_,h0⟩|⟨g,cap,cur,hv,_⟩
  ·omega
  ·exact ⟨g,cap,hv⟩
 go_wp2
 go_ret
 refine⟨rfl,.inr ?_,?_,((hk1.alloc _).grown hgrow (own_kind (hown.alloc _))).setCell ⟨b,1,none⟩ rfl _⟩
 ·exact PrAt.put hB hb2 (by
  have hc:Lib.byteCells (l++[c])=Lib.byteCells l++[.int .u8 (c.toNat:Int)]:=zl3 l [c];rw[hc];simpa using hown')
 ·exact ((hb1.alloc (by have:=hb1.size;omega) _).grown hgrow (by have:=hb1.size;simp;omega) (fun k hk=>(hown.lt k hk).1)).setCell (p:=⟨b,1,none⟩) hB _
theorem zO8(B b:Nat)(l t:Bs)(ls:Bool)(n:Int)(w:World)(h:Prn B b l ls n w)(hl:l.length+t.length<=140737488355328)(hBw:B<=w.heap.size):
 Calls Tryz.prog 91 #[.pointer (some ⟨b,0,none⟩),.string (st t)] w fun e w'=>(∃m,e= .returned (.tuple #[.int .i64 m,.nilIface]))/\PrW B b (l++t) ls n w w':=by
 obtain⟨i0,hi,hz0,hz1,hz2⟩:=info_parts prn_byte;have HC:=hq (pcheck B b l ls n w h);have hst:(st t).size=t.length:=za8 t;clear h;have hcells:Lib.strCells (st t)=Lib.byteCells t:=rfl;generalize st t=s at *;go_enter Tryz.func91,Tryz.ntmps91
 go_wp2_with fail
 refine HC.o.mono ?_;rintro e w1 ⟨rfl,h1,hb1,hk1⟩;obtain⟨hB,v,hbk,hown⟩:=h1;have hne:=Lib.ownBlock_ne hown hbk pr_ne;have c0:w1.cell? ⟨b,0,none⟩=some (.pointer (some ⟨b,0,none⟩)):=by rw[Lib.cell_of_heap hbk];rfl
 have c1:w1.cell? ⟨b,1,none⟩=some v:=by rw[Lib.cell_of_heap hbk];rfl
 go_wp2_with (at_builtin;refine Lib.wpList_append_own_string _ rfl _ _ 96 9 rfl B 5 i0 (by kernel_rfl) (by kernel_rfl) hi hz0 hz1 hz2 _ _ _ rfl hown s rfl ?c3 ?c4 ?c5 ?_)
 case c3=>unfold maxLen;omega
 case c4=>omega
 case c5=>have:=hb1.size;omega
 intro v' w2 hown' hgrow _;have hlt:b<w1.heap.size:=(Array.getElem?_eq_some_iff.1 hbk).1;have hb2:w2.heap[b]?=some (.cells #[.pointer (some ⟨b,0,none⟩),v,.bool ls,.int .i64 n] 100 (0,0)):=by
  rw[hgrow.block b hlt (fun e=>hne e.symm)];exact hbk
 have d0:w2.cell? ⟨b,0,none⟩=some (.pointer (some ⟨b,0,none⟩)):=by rw[Lib.cell_of_heap hb2];rfl
 have d1:w2.cell? ⟨b,1,none⟩=some v:=by rw[Lib.cell_of_heap hb2];rfl
 have f1:w2.frozen? ⟨b,1,none⟩=false:=Lib.frozen_of_heap hb2 1;obtain⟨ao,n',cap,rfl⟩: ∃ao n' cap,v'= .slice ao n' cap:=by
  rcases hown'.2 with ⟨hv,_⟩|⟨g,cap,cur,hv,_⟩
  ·exact ⟨_,_,_,hv⟩
  ·exact ⟨_,_,_,hv⟩
 go_wp2
 go_ret2
 refine⟨⟨_,rfl⟩,.inr ?_,?_,(hk1.grown hgrow (own_kind hown)).setCell ⟨b,1,none⟩ rfl _⟩
 ·exact PrAt.put hB hb2 (by rw[zl3,List.length_append];exact hown')
 ·exact (hb1.grown hgrow (by have:=hb1.size;omega) (fun k hk=>(hown.lt k hk).1)).setCell (p:=⟨b,1,none⟩) hB _
end Go.Proofs.YtkafjblfjdpdaaaGreatDoor
