/-
  WALK: value.objects.
  WALK: value.compare.
  WALKS: value.Compare, Same.
  WALKS: value.Sorted, Copy: remake in two orders.
  WALKS: value.Sorted, Copy, Get, Of, Num.
  WALKS: value.Of, Num; the law's Row, Map.
  WALK: value.Get.
-/
import Derived.Test.YtkafjblfjdpdaaaGreatDoorVtNT
namespace Go.Proofs.YtkafjblfjdpdaaaGreatDoor
open Go.RowKit
structure Fine(x:Vt)(w:World):Prop where
 ok:x.Ok w
 lim:x.m.All Lim
 sz:x.m.size≤1000000
theorem Fine.grow {x:Vt} {w w':World} (h:Fine x w)(hb:Below w.heap.size w w'):Fine x w':=⟨h.ok.grow hb,h.lim,h.sz⟩
def Rem1(v:Vl):Prop:=Good v∧v.size≤1000000
theorem Rem1.items {k:Int} {t:Bs} {ks:List Bs} {is:List Vl} (h:Rem1 (.mk k t ks is)): ∀x∈is,Rem1 x:=fun x hx=>by
 refine⟨h.1.items x hx,?_⟩
 have h1:=h.2
 simp only[Vl.size]at h1
 have:=Vl.sizes_le x hx
 omega
def ordR(v:Vl):List Nat:=List.range v.is.length
def zeroL:Vl:= .mk 0 [] [] []
def zeroT:Vt:= .mk 0 [] ⟨none,0,[]⟩ none 0 []
theorem below_put4 {B:Nat} {w W:World} (h:Below B w W) {g:Nat} (hg:B≤g)(a b c d:Value):Below B w ((((W.setCell ⟨g,0,none⟩ a).setCell ⟨g,1,none⟩ b).setCell ⟨g,2,none⟩ c).setCell ⟨g,3,none⟩ d):=
 below_put (below_put (below_put (below_put h hg 0 a) hg 1 b) hg 2 c) hg 3 d
theorem decDigits_shortU(n:Int)(h0:-9223372036854775808≤n)(h1:n≤9223372036854775807):(Lib.decDigits n.natAbs).length≤1000∧(Lib.itoa n).length≤1000:=by
 have h:=Lib.itoa_length_le n (by omega) (by omega)
 have h2:(Lib.decDigits n.natAbs).length≤(Lib.itoa n).length:=by
  unfold Lib.itoa
  split
  ·simp
  ·rename_i hn
   rw[show n.natAbs=n.toNat by omega]
   exact Nat.le_refl _
 omega
theorem of_intU(n:Int)(h0:-9223372036854775808≤n)(h1:n≤9223372036854775807)(w:World)(hI:Itoas n w):
 Calls Tryz.prog 67 #[.int .i64 n] w (OfPost (ofM n) w):=by
 have h:=decDigits_shortU n h0 h1
 exact of_any n _ w hI h.2 (splitM_itoa n) (by simp only[List.length_nil];omega)
theorem ofM_bdU(n:Int)(h0:-9223372036854775808≤n)(h1:n≤9223372036854775807):(ofM n).digits.length≤1000∧-9223372036854775808≤(ofM n).exp∧(ofM n).exp≤9223372036854775807:=
 numM_exp _ _ _ _ _ rfl (by simp) (by have:=(decDigits_shortU n h0 h1).1;simp only[List.length_nil];omega)
def leafT(k:Int)(t:Bs):Vt:= .mk k t ⟨none,0,[]⟩ none 0 []
theorem leafT_m(k:Int)(t:Bs):(leafT k t).m= .mk k t [] []:=by unfold leafT;rw[Vt.m_mk];rfl
theorem leafT_v(k:Int)(t:Bs):(leafT k t).v= .agg #[.int .i64 k,.string (st t),.slice none 0 0,.slice none 0 0]:=rfl
def LeafPost(k:Int)(t:Bs)(w:World)(e:Ending)(w':World):Prop:=e= .returned (leafT k t).v∧Below w.heap.size w w'
set_option maxHeartbeats 4000000 in
set_option maxRecDepth 1000000 in
theorem vOf_any(t:Bs)(w:World):Calls Tryz.prog 29 #[.string (st t)] w (LeafPost 4 t w):=by
 have hb0:=below_alloc w (.cells #[.int .i64 4,.string (st t),.slice none 0 0,.slice none 0 0] 26)
 obtain⟨r0,r1,r2,r3⟩:=four_cells (Whole.made w 26 #[.int .i64 4,.string (st t),.slice none 0 0,.slice none 0 0])
 have HV:=hq (show LeafPost 4 t w (.returned (leafT 4 t).v) (w.alloc (.cells #[.int .i64 4,.string (st t),.slice none 0 0,.slice none 0 0] 26)) from⟨rfl,hb0⟩)
 generalize LeafPost 4 t w=PP at *
 clear hb0
 go_enter Tryz.func29,Tryz.ntmps29
 go_wp2_with fail
 refine bodyPost_ret (v:=(leafT 4 t).v) ?_ rfl HV.o
 simp[results,Tryz.results29,go_sem,r0,r1,r2,r3,leafT_v]
set_option maxHeartbeats 4000000 in
set_option maxRecDepth 1000000 in
theorem vNum_any(n:Int)(w:World)(hI:Its w)(h0:-9223372036854775808≤n)(h1:n≤9223372036854775807):Calls Tryz.prog 30 #[.int .i64 n] w (LeafPost 3 (textM (ofM n)) w):=by
 have HOF:=hq (fun V (hV:Below w.heap.size w V)=>of_intU n h0 h1 V ((hI.grow hV) n h0 h1))
 have hbd:=ofM_bdU n h0 h1
 have HP:Hq (∀W',Below w.heap.size w W'→LeafPost 3 (textM (ofM n)) w (.returned (leafT 3 (textM (ofM n))).v) W'):=hq (fun W' h=>⟨rfl,h⟩)
 unfold OfPost at HOF
 generalize LeafPost 3 (textM (ofM n)) w=PP at *
 generalize ofM n=d at *
 obtain⟨neg,D,E⟩:=d
 simp only[Dec.val]at *
 have HTX:=hq (fun V (hV:Below w.heap.size w V)=>text_any neg D E V (by omega) (by omega) (fun _=>(hI.grow hV) E (by omega) (by omega)) (decDigits_shortV E (by omega) (by omega)))
 generalize textM ⟨neg,D,E⟩=T at *
 have hb0:=below_alloc w (.cells #[.int .i64 0,.string ⟨#[]⟩,.slice none 0 0,.slice none 0 0] 26)
 have HW0:=hq (Whole.made w 26 #[.int .i64 0,.string ⟨#[]⟩,.slice none 0 0,.slice none 0 0])
 have HB0:=hq hb0
 clear hb0 hI
 go_enter Tryz.func30,Tryz.ntmps30
 go_upto_region 1 with fail
 generalize (w.alloc (.cells #[.int .i64 0,.string ⟨#[]⟩,.slice none 0 0,.slice none 0 0] 26))=V0 at *
 go_wp2_with fail
 refine(HOF.o V0 HB0.o).mono ?_
 rintro e w2 ⟨rfl,hb2⟩
 have HB2:=hq (below_trans HB0.o hb2)
 have HW2:=hq (HW0.o.grow hb2)
 clear hb2 HOF
 go_wp2_with fail
 refine(HTX.o w2 HB2.o).mono ?_
 rintro e w3 ⟨rfl,hb3⟩
 have HW3:=hq (HW2.o.grow hb3)
 obtain⟨r0,r1,r2,r3⟩:=four_cells HW3.o
 have f0:=HW3.o.free 0
 have f1:=HW3.o.free 1
 have f2:=HW3.o.free 2
 have f3:=HW3.o.free 3
 have HV:=hq (fun a b c d=>HP.o _ (below_put4 (below_trans HB2.o hb3) (Nat.le_refl _) a b c d))
 clear hb3 HTX HP
 go_wp2_with fail
 refine bodyPost_ret (v:=(leafT 3 T).v) ?_ rfl (HV.o _ _ _ _)
 simp[results,Tryz.results30,go_sem,r0,r1,r2,r3,leafT_v]
def NodePost(v:Value)(w:World)(e:Ending)(w':World):Prop:=e= .returned v∧Below w.heap.size w w'
def ixOf:List Bs→Bs→Option Nat
 | [],_=>none
 |x::l,k=>if x=k then some 0 else(ixOf l k).map (· +1)
def ixI(l:List Bs)(k:Bs):Int:=match ixOf l k with
 |some i=>(i:Int)
 |none=>-1
def getM(v:Vl)(key:Bs):Option Vl:=if openM v=true∧v.k=6 then(match ixOf v.ks key with
 |some i=>v.is[i]?
 |none=>none) else none
def GetPost(r:Option Vl)(W:World)(e:Ending)(W':World):Prop:= ∃y:Vt,e= .returned (.tuple #[y.v,.bool r.isSome])∧y.Own 26 9 W.heap.size (fun _=>True) W'∧y.m=r.getD zeroL∧Below W.heap.size W W'
end Go.Proofs.YtkafjblfjdpdaaaGreatDoor
