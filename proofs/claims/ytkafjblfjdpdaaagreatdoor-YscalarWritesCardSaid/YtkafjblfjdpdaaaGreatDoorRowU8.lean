/-
  WALK: the law YscalarBack.
  WALK: the document's own answer of layer 11: Resolve.
  A ROW OF BYTES that the call makes by append, and its way back to a text.
-/
import Derived.Test.YtkafjblfjdpdaaaGreatDoorYsP
import Derived.Test.YtkafjblfjdpdaaaGreatDoorPrM
import Derived.Test.YtkafjblfjdpdaaaGreatDoorYsN
import Derived.Test.YtkafjblfjdpdaaaGreatDoorNumKW
import Derived.Test.YtkafjblfjdpdaaaGreatDoorVrC
import Derived.Test.YtkafjblfjdpdaaaGreatDoorVlBC
import Derived.Test.YtkafjblfjdpdaaaGreatDoorBas
import Derived.Laws.OwnMore
import Derived.Lib.AppendStr
import Derived.Laws.IdiomStrings
import Derived.Lib.SmallJoins
import Derived.Deep.LoopGhost
namespace Go.Proofs.YtkafjblfjdpdaaaGreatDoor
open Go.RowKit
theorem few_priY {x:Vt} {w:World} {n:Nat} (hok:x.Ok w)(h:FewV x.m n)(hn:n≤1000000):Pri x w:=⟨few_fine hok h hn,h.sh⟩
end Go.Proofs.YtkafjblfjdpdaaaGreatDoor
namespace Go.Proofs.YtkafjblfjdpdaaaGreatDoor
open Go.RowKit
set_option maxHeartbeats 16000000 in
set_option maxRecDepth 1000000 in
theorem rresolve_any(s:ByteArray)(W:World)(hs:s.size≤1099511627776):
 Calls Tryz.prog 18 #[.string s] W (LeafR (resolveL s.data.toList) W):=by
 have hst:st s.data.toList=s:=ba_ext (by simp)
 have hsl:s.data.toList.length≤1099511627776:=by rw[Array.length_toList];exact hs
 have HPA:=hq (fun V=>(show Calls Tryz.prog 44 #[.string s] V (PPost (parseM s.data.toList) V) from by have h:=rparse_any s.data.toList V hsl;rwa [hst]at h))
 have HTX:Hq (∀d:Dec,d.right=true→ ∀V,Below W.heap.size W V→Calls Tryz.prog 45 #[.agg #[.bool d.neg,.string (st d.digits),.int .i64 d.exp]] V fun e w'=>e= .returned (.string (st (textM d)))∧Below V.heap.size V w'):=hq (fun d hr V _=>by
  have hbd:= @right_bd d.neg d.digits d.exp hr
  exact rtext_any d.neg d.digits d.exp V (by omega) (by omega))
 have HOF:Hq (∀V,Calls Tryz.prog 36 #[.string s] V fun e W'=>e= .returned (.agg #[.int .i64 4,.string s,.slice none 0 0,.slice none 0 0])∧Below V.heap.size V W'):=hq (fun V=>by
  have h:=rOf_any s.data.toList V
  rw[hst]at h
  exact h.mono fun e W' h=>⟨by rw[h.1,leafT_v,hst],h.2⟩)
 have HRC:=hq (resolve_cases s.data.toList)
 have HP:Hq (∀W',Below W.heap.size W W'→LeafR (resolveL s.data.toList) W (.returned (.agg #[.int .i64 (resolveL s.data.toList).k,.string (st (resolveL s.data.toList).t),.slice none 0 0,.slice none 0 0])) W'):=hq (fun W' h=>⟨rfl,h⟩)
 generalize LeafR (resolveL s.data.toList) W=PP at *
 have E0:=lit_eq s []
 have E1:=lit_eq s [110,117,108,108]
 have E2:=lit_eq s [126]
 have E3:=lit_eq s [116,114,117,101]
 have E4:=lit_eq s [102,97,108,115,101]
 have HB0:=hq (below_alloc W (.cells #[.int .i64 0,.string ⟨#[]⟩,.slice none 0 0,.slice none 0 0] 26))
 have HW0:=hq (Whole.made W 26 #[.int .i64 0,.string ⟨#[]⟩,.slice none 0 0,.slice none 0 0])
 clear hsl
 unfold PPost at HPA
 go_enter Tryz.func18,Tryz.ntmps18
 go_upto_region 1 with fail
 obtain⟨g,HG⟩: ∃g,Hq (g=W.heap.size):=⟨_,hq rfl⟩
 rw[←HG.o]at HW0 ⊢
 generalize (W.alloc (.cells #[.int .i64 0,.string ⟨#[]⟩,.slice none 0 0,.slice none 0 0] 26))=V0 at *
 have HPUT:=hq (fun V (h:Below W.heap.size W V) a b c d=>below_put4 h (show W.heap.size≤g by rw[HG.o];exact Nat.le_refl _) a b c d)
 obtain⟨z0,z1,z2,z3⟩:=four_cells HW0.o
 have f0:=HW0.o.free 0
 have f1:=HW0.o.free 1
 have f2:=HW0.o.free 2
 have f3:=HW0.o.free 3
 have nul: ∀(_:resolveL s.data.toList= .mk 1 [] [] []),Hq (PP (.returned (.agg #[.int .i64 1,.string ⟨#[]⟩,.slice none 0 0,.slice none 0 0])) ((((V0.setCell ⟨g,0,none⟩ (.int .i64 1)).setCell ⟨g,1,none⟩ (.string ⟨#[]⟩)).setCell ⟨g,2,none⟩ (.slice none 0 0)).setCell ⟨g,3,none⟩ (.slice none 0 0))):=fun h=>hq (by
  have:=HP.o _ (HPUT.o _ HB0.o (.int .i64 1) (.string ⟨#[]⟩) (.slice none 0 0) (.slice none 0 0))
  rw[h]at this
  exact this)
 have two: ∀(_:resolveL s.data.toList= .mk 2 s.data.toList [] []),Hq (PP (.returned (.agg #[.int .i64 2,.string s,.slice none 0 0,.slice none 0 0])) ((((V0.setCell ⟨g,0,none⟩ (.int .i64 2)).setCell ⟨g,1,none⟩ (.string s)).setCell ⟨g,2,none⟩ (.slice none 0 0)).setCell ⟨g,3,none⟩ (.slice none 0 0))):=fun h=>hq (by
  have:=HP.o _ (HPUT.o _ HB0.o (.int .i64 2) (.string s) (.slice none 0 0) (.slice none 0 0))
  rw[h]at this
  simp only[Vl.k,Vl.t,hst]at this
  exact this)
 rcases HRC.o with ⟨hc,hr⟩|⟨n0,n1,n2,hc,hr⟩|⟨n0,n1,n2,n3,n4,hc⟩
 ·have HV:=nul hr
  clear HP HTX HPA HOF HRC two nul hr hst
  by_cases c0:s.data.toList=[]
  ·rw[decide_eq_true c0]at E0
   clear c0 hc E1 E2 E3 E4
   go_wp2_with fail
   refine bodyPost_ret (v:= .agg #[.int .i64 1,.string ⟨#[]⟩,.slice none 0 0,.slice none 0 0]) ?_ rfl HV.o
   simp[results,Tryz.results18,go_sem,z0,z1,z2,z3]
  ·rw[decide_eq_false c0]at E0
   by_cases c1:s.data.toList=[110,117,108,108]
   ·rw[decide_eq_true c1]at E1
    clear c0 c1 hc E2 E3 E4
    go_wp2_with fail
    refine bodyPost_ret (v:= .agg #[.int .i64 1,.string ⟨#[]⟩,.slice none 0 0,.slice none 0 0]) ?_ rfl HV.o
    simp[results,Tryz.results18,go_sem,z0,z1,z2,z3]
   ·rw[decide_eq_false c1]at E1
    rw[decide_eq_true ((hc.resolve_left c0).resolve_left c1)]at E2
    clear c0 c1 hc E3 E4
    go_wp2_with fail
    refine bodyPost_ret (v:= .agg #[.int .i64 1,.string ⟨#[]⟩,.slice none 0 0,.slice none 0 0]) ?_ rfl HV.o
    simp[results,Tryz.results18,go_sem,z0,z1,z2,z3]
 ·have HV:=two hr
  clear HP HTX HPA HOF HRC two nul hr hst
  rw[decide_eq_false n0]at E0
  rw[decide_eq_false n1]at E1
  rw[decide_eq_false n2]at E2
  clear n0 n1 n2
  by_cases c3:s.data.toList=[116,114,117,101]
  ·rw[decide_eq_true c3]at E3
   clear c3 hc E4
   go_wp2_with fail
   refine bodyPost_ret (v:= .agg #[.int .i64 2,.string s,.slice none 0 0,.slice none 0 0]) ?_ rfl HV.o
   simp[results,Tryz.results18,go_sem,z0,z1,z2,z3]
  ·rw[decide_eq_false c3]at E3
   rw[decide_eq_true (hc.resolve_left c3)]at E4
   clear c3 hc
   go_wp2_with fail
   refine bodyPost_ret (v:= .agg #[.int .i64 2,.string s,.slice none 0 0,.slice none 0 0]) ?_ rfl HV.o
   simp[results,Tryz.results18,go_sem,z0,z1,z2,z3]
 ·rw[decide_eq_false n0]at E0
  rw[decide_eq_false n1]at E1
  rw[decide_eq_false n2]at E2
  rw[decide_eq_false n3]at E3
  rw[decide_eq_false n4]at E4
  clear n0 n1 n2 n3 n4 two nul HRC
  rcases hc with ⟨h1,hr⟩|⟨h1,hr⟩
  ·have hpr:=parseM_right (l:=s.data.toList) (m:=(parseM s.data.toList).1) (by rw[←h1])
   have HTD:=hq (HTX.o _ hpr)
   rw[hr]at HP
   generalize parseM s.data.toList=R at *
   obtain⟨⟨neg,D,E⟩,er⟩:=R
   simp only at h1
   subst h1
   simp only[Vl.k,Vl.t]at HP
   generalize hTM:textM ⟨neg,D,E⟩=TM at *
   have hTM':=hq hTM
   clear HTX hpr hTM HOF hr hst
   go_wp2_with fail
   refine(HPA.o _).mono ?_
   rintro e w2 ⟨rfl,hb2⟩
   have HB2:=hq (below_trans HB0.o hb2)
   have HW2:=hq (HW0.o.grow hb2)
   clear HPA hb2 z0 z1 z2 z3 f0 f1 f2 f3
   simp only[Dec.val]
   go_upto_region 10 with fail
   have HB3:=hq (below_trans HB2.o (below_alloc w2 (.cells #[.bool neg,.string (st D),.int .i64 E] 59)))
   have HW3:=hq (HW2.o.grow (below_alloc w2 (.cells #[.bool neg,.string (st D),.int .i64 E] 59)))
   obtain⟨n0,n1,n2⟩:=three_cells (Whole.made w2 59 #[.bool neg,.string (st D),.int .i64 E])
   generalize w2.alloc (.cells #[.bool neg,.string (st D),.int .i64 E] 59)=W3 at *
   generalize w2.heap.size=gn at *
   go_wp2_with fail
   refine(HTD.o W3 HB3.o).mono ?_
   rintro e w4 ⟨rfl,hb4⟩
   have HB4:=hq (below_trans HB3.o hb4)
   have hw4:=HW3.o.grow hb4
   obtain⟨z0,z1,z2,z3⟩:=four_cells hw4
   have f0:=hw4.free 0
   have f1:=hw4.free 1
   have f2:=hw4.free 2
   have f3:=hw4.free 3
   have HV:=hq (HP.o _ (HPUT.o _ HB4.o (.int .i64 3) (.string (st TM)) (.slice none 0 0) (.slice none 0 0)))
   clear HP HTD hb4 hw4
   go_wp2_with fail
   refine bodyPost_ret (v:= .agg #[.int .i64 3,.string (st TM),.slice none 0 0,.slice none 0 0]) ?_ rfl HV.o
   simp[results,Tryz.results18,go_sem,z0,z1,z2,z3]
  ·rw[hr]at HP
   simp only[Vl.k,Vl.t,hst]at HP
   clear HTX hr hst
   generalize parseM s.data.toList=R at *
   obtain⟨⟨neg,D,E⟩,er⟩:=R
   have e1:(er==0)=false:=beq_eq_false_iff_ne.2 h1
   clear h1
   go_wp2_with fail
   refine(HPA.o _).mono ?_
   rintro e w2 ⟨rfl,hb2⟩
   have HB2:=hq (below_trans HB0.o hb2)
   have HW2:=hq (HW0.o.grow hb2)
   clear HPA hb2 z0 z1 z2 z3 f0 f1 f2 f3
   simp only[Dec.val]
   go_upto_region 10 with fail
   have HB3:=hq (below_trans HB2.o (below_alloc w2 (.cells #[.bool neg,.string (st D),.int .i64 E] 59)))
   have HW3:=hq (HW2.o.grow (below_alloc w2 (.cells #[.bool neg,.string (st D),.int .i64 E] 59)))
   generalize w2.alloc (.cells #[.bool neg,.string (st D),.int .i64 E] 59)=W3 at *
   generalize w2.heap.size=gn at *
   go_wp2_with fail
   refine(HOF.o W3).mono ?_
   rintro e w4 ⟨rfl,hb4⟩
   have HB4:=hq (below_trans HB3.o hb4)
   have hw4:=HW3.o.grow hb4
   obtain⟨z0,z1,z2,z3⟩:=four_cells hw4
   have f0:=hw4.free 0
   have f1:=hw4.free 1
   have f2:=hw4.free 2
   have f3:=hw4.free 3
   have HV:=hq (HP.o _ (HPUT.o _ HB4.o (.int .i64 4) (.string s) (.slice none 0 0) (.slice none 0 0)))
   clear HP HOF hb4 hw4
   go_wp2_with fail
   refine bodyPost_ret (v:= .agg #[.int .i64 4,.string s,.slice none 0 0,.slice none 0 0]) ?_ rfl HV.o
   simp[results,Tryz.results18,go_sem,z0,z1,z2,z3]
end Go.Proofs.YtkafjblfjdpdaaaGreatDoor
namespace Go.Proofs.YtkafjblfjdpdaaaGreatDoor
open Go.RowKit
theorem infoU8:(Tryz.prog.info? 5).map (fun i=>(i.zero,i.size,i.bytes))=some (some (.int .u8 0),1,1):=by kernel_rfl
theorem byteCells_app'(a b:Bs):Lib.byteCells (a++b)=Lib.byteCells a++Lib.byteCells b:=by simp[Lib.byteCells]
def RowIs(w:World)(base:Nat)(v:Value)(l:Bs):Prop:=w.ownsRow base 5 1 v l.length (Lib.byteCells l)
theorem RowIs.alloc {w:World} {base:Nat} {v:Value} {l:Bs} (h:RowIs w base v l)(o:Obj):RowIs (w.alloc o) base v l:=World.ownsRow.alloc h o
theorem rel_app {w:World} {base m:Nat} {v:Value} {l l' t:Bs} {news:List Value} (h:w.ownsRow base 5 1 v (l.length+m) (Lib.byteCells l++news))(hl:l'=l++t)(hm:t.length=m)(hn:Lib.byteCells t=news):RowIs w base v l':=by
 subst hl hm hn
 unfold RowIs
 rw[byteCells_app',List.length_append]
 exact h
theorem cells_new(w:World)(l:List Value)(T:TypeId): ∀j u,l[j]?=some u→(w.alloc (.cells l.toArray T)).cell? ((⟨w.heap.size,0,none⟩:Addr).add j)=some u:=by
 intro j u h
 rw[show (⟨w.heap.size,0,none⟩:Addr).add j=⟨w.heap.size,j,none⟩ by simp[Addr.add];exact fun h=>h.symm,World.cell?_alloc_new]
 simpa using h
theorem row_other {w:World} {B:Nat} {v:Value} {l:Bs} (h:RowIs w B v l): ∀k,v.ownBlock=some k→B≤k:=fun k hk=>(h.lt k hk).1
theorem u8_one {l:List Value} (h: ∃xs:List Int,l=xs.map (Value.int .u8)): ∀u∈l,u.oneCell'=true:=by
 obtain⟨xs,rfl⟩:=h
 intro u hu
 obtain⟨x,_,rfl⟩:=List.mem_map.1 hu
 rfl
theorem bytes_back {w:World} {base:Nat} {v:Value} {l:Bs} (h:RowIs w base v l)(h0:0<l.length):(convert 96 9 v).run Tryz.prog w= .ok (.string (st l)) w:=by
 obtain⟨g,cap,rfl⟩:=Go.Joins.ownsRow_form h h0
 refine run_convert_bytes_back w _ _ 5 _ _ l Tryz.underlying96 Tryz.underlying5 Tryz.underlying9 ?_
 intro j hj
 rw[show (⟨g,0,none⟩:Addr).add j=⟨g,j,none⟩ by simp[Addr.add];exact fun h=>h.symm,World.ownsRow.cellAt h j (by omega)]
 simp[Lib.byteCells,hj]
end Go.Proofs.YtkafjblfjdpdaaaGreatDoor
