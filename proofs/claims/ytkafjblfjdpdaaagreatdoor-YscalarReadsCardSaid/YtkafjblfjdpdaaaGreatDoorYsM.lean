/-
  PLAIN MATHEMATICS: what is written in a line is UTF-8, of bytes that a line may have; where it begins and ends.
  WALKS: yscalar.Key, yscalar.WriteKey.
-/
import Derived.Test.YtkafjblfjdpdaaaGreatDoorYsL
set_option maxHeartbeats 4000000
set_option maxRecDepth 1000000
namespace Go.Proofs.YtkafjblfjdpdaaaGreatDoor
open Go.RowKit
def Vd(l:Bs):Prop:= ∃rs,zx2 rs/\zd rs=l
theorem encs_app(a b:List Nat):zd (a++b)=zd a++zd b:=by unfold zd;rw[List.flatMap_append]
theorem Vd.nil:Vd []:=⟨[],(fun r hr=>by cases hr),rfl⟩
theorem Vd.app {a b:Bs} (ha:Vd a)(hb:Vd b):Vd (a++b):=by
 obtain⟨x,x1,x2⟩:=ha;obtain⟨y,y1,y2⟩:=hb;refine⟨x++y,fun r hr=> ?_,by rw[encs_app,x2,y2]⟩;rcases List.mem_append.1 hr with h|h
 ·exact x1 r h
 ·exact y1 r h
theorem Vd.low {l:Bs} (h: ∀c∈l,c.toNat<128):Vd l:=by
 refine⟨l.map UInt8.toNat,fun r hr=> ?_,?_⟩
 ·obtain ⟨c,hc,rfl⟩:=List.mem_map.1 hr;have:=h c hc;omega
 ·unfold zd;induction l with
  |nil=>rfl
  |cons c l ih=>
   rw[List.map_cons,List.flatMap_cons,encU_low (h c (by simp)),ih (fun x hx=>h x (List.mem_cons_of_mem _ hx))];rfl
theorem Vd.valid {l:Bs} (h:Vd l):(valid (st l)).2=true:=by
 obtain⟨rs,h1,h2⟩:=h;rw[←h2];exact valid_enc rs h1
theorem vd_of {l:Bs} (h:(valid (st l)).2=true):Vd l:=by
 obtain⟨rs,h1,h2⟩:=scan_at (st l) (st (zg6 (st l)).1) 0 h ⟨[],by rw[zc7,List.append_nil];rfl⟩;refine⟨rs,?_,by rw[h1,zc7]⟩;have ho:zx2 (zb7 (st (zg6 (st l)).1) 0).2.2:=by
  unfold zb7;split
  ·exact (zF1 _ _ _ [] (fun x hx=>by cases hx)).1
  ·exact fun x hx=>by cases hx
 rw[h2]at ho;exact ho
theorem encU_high {r:Nat} (h:128<=r)(hr:r<=1114111/\(r<55296\/57343<r)): ∀b∈encB r,128<=b.toNat:=by
 intro b hb;unfold encB at hb;obtain⟨x,hx,rfl⟩:=List.mem_map.1 hb;have hx2:128<=x/\x<256:=by
  by_cases h2:r<=2047
  ·rw[Lib.encodeRuneZ_two (by omega) (by omega)]at hx;simp only[List.mem_cons,List.not_mem_nil,or_false]at hx;omega
  ·by_cases h3:r<=65535
   ·rw[Lib.encodeRuneZ_three (by omega)]at hx;simp only[List.mem_cons,List.not_mem_nil,or_false]at hx;omega
   ·rw[Lib.encodeRuneZ_four (by omega) (by omega)]at hx;simp only[List.mem_cons,List.not_mem_nil,or_false]at hx;omega
 rw[ofNat_toNat (by omega)];omega
theorem Vd.ind {P:Bs->Prop} (h0:P [])(h1: ∀(c:UInt8) (l:Bs),c.toNat<128->Vd l->P l->P (c::l))(h2: ∀(a l:Bs),(∀c∈a,128<=c.toNat)->Vd a->Vd l->P l->P (a++l)) {l:Bs} (h:Vd l):P l:=by
 obtain⟨rs,ho,rfl⟩:=h;induction rs with
 |nil=>exact h0
 |cons r rs ih=>
  have hr:=ho r (by simp);have ht:zx2 rs:=fun x hx=>ho x (List.mem_cons_of_mem _ hx)
  have hi:=ih ht;show P (encB r++zd rs);by_cases hlow:r<128
  ·have e:encB r=[UInt8.ofNat r]:=by
    have:=encU_low (c:=UInt8.ofNat r) (by rw[ofNat_toNat (by omega)];exact hlow);rwa [ofNat_toNat (by omega)]at this
   rw[e];exact h1 (UInt8.ofNat r) (zd rs) (by rw[ofNat_toNat (by omega)];exact hlow) ⟨rs,ht,rfl⟩ hi
  ·exact h2 (encB r) (zd rs) (encU_high (by omega) hr) ⟨[r],(fun x hx=>by rw[List.mem_singleton]at hx;rw[hx];exact hr),by show encB r++[]=_;rw[List.append_nil]⟩ ⟨rs,ht,rfl⟩ hi
theorem Vd.one {c:UInt8} (h:c.toNat<128):Vd [c]:= .low (fun x hx=>by rw[List.mem_singleton]at hx;rw[hx];exact h)
theorem Vd.cons {c:UInt8} {l:Bs} (h:c.toNat<128)(hl:Vd l):Vd (c::l):=Vd.app (a:=[c]) (.one h) hl
theorem qb_low: ∀c:Nat,c<128-> ∀x∈qb (UInt8.ofNat c),x.toNat<128/\32<=x.toNat:=by decide+kernel
theorem qb_low' {c:UInt8} (h:c.toNat<128): ∀x∈qb c,x.toNat<128/\32<=x.toNat:=by
 have:=qb_low c.toNat h;rwa [UInt8.ofNat_toNat]at this
theorem vd_quoteB {l:Bs} (h:Vd l):Vd (ze1 l)/\ ∀c∈ze1 l,32<=c.toNat:=
 Vd.ind (P:=fun l=>Vd (ze1 l)/\ ∀c∈ze1 l,32<=c.toNat) ⟨.nil,fun c hc=>by cases hc⟩
  (fun c l hc _ ih=>by
   have e:ze1 (c::l)=qb c++ze1 l:=rfl;rw[e];refine⟨.app (.low (fun x hx=>(qb_low' hc x hx).1)) ih.1,fun x hx=> ?_⟩;rcases List.mem_append.1 hx with h|h
   ·exact (qb_low' hc x h).2
   ·exact ih.2 x h)
  (fun a l ha hv _ ih=>by
   rw[zA3,zr5 a ha];refine⟨.app hv ih.1,fun x hx=> ?_⟩;rcases List.mem_append.1 hx with h|h
   ·have:=ha x h;omega
   ·exact ih.2 x h) h
def hashL:UInt8->Bs->Bool
 |_,[]=>true
 |p,c::r=> !(p==32&&c==35)&&hashL c r
theorem vd_qt {t:Bs} (h:(valid (st t)).2=true):Vd (qtB t)/\ ∀c∈qtB t,32<=c.toNat:=by
 obtain⟨h1,h2⟩:=vd_quoteB (vd_of h);rw[←qt_text,zu5 h,zc7];refine⟨.cons (by decide) (.app h1 (.one (by decide))),fun c hc=> ?_⟩;simp only[List.cons_append,List.mem_cons,List.mem_append,List.not_mem_nil,or_false]at hc;rcases hc with rfl|h|rfl
 ·decide
 ·exact h2 c h
 ·decide
theorem vd_flat {α:Type} {f:α->Bs}: ∀(l:List α),(∀x∈l,Vd (f x)/\ ∀c∈f x,32<=c.toNat)->Vd ((l.map f).flatMap fun y=>44::(([]:Bs)++y))/\ ∀c∈(l.map f).flatMap fun y=>44::(([]:Bs)++y),32<=c.toNat
 | [],_=>⟨.nil,fun c hc=>by cases hc⟩
 |x::l,h=>by
  obtain⟨h1,h2⟩:=vd_flat l (fun y hy=>h y (List.mem_cons_of_mem _ hy));obtain⟨h3,h4⟩:=h x (by simp);simp only[List.nil_append]at h1 h2;simp only[List.map_cons,List.flatMap_cons,List.nil_append,List.cons_append];refine⟨.cons (by decide) (.app h3 h1),fun c hc=> ?_⟩;rcases List.mem_cons.1 hc with rfl|hc
  ·decide
  rcases List.mem_append.1 hc with hc|hc
  ·exact h4 c hc
  ·exact h2 c hc
theorem vd_list {α:Type} {f:α->Bs} (l:List α)(h: ∀x∈l,Vd (f x)/\ ∀c∈f x,32<=c.toNat) {o c:UInt8} (ho:o.toNat<128/\32<=o.toNat)(hc:c.toNat<128/\32<=c.toNat)(n lev:Nat):
 Vd (zk7 false n lev o c (l.map f))/\ ∀x∈zk7 false n lev o c (l.map f),32<=x.toNat:=by
 have e: ∀m k,lnB false m k=[]:=fun m k=>rfl
 unfold zk7;simp only[e,ite_self,List.append_nil];cases l with
 |nil=>
  refine⟨.cons ho.1 (.one hc.1),fun x hx=> ?_⟩;have hx:x=o\/x=c:=by simpa [zf3] using hx
  rcases hx with rfl|rfl
  ·exact ho.2
  ·exact hc.2
 |cons y l=>
  obtain⟨h1,h2⟩:=vd_flat l (fun z hz=>h z (List.mem_cons_of_mem _ hz));obtain⟨h3,h4⟩:=h y (by simp);simp only[List.map_cons,zf3,List.nil_append];simp only[List.nil_append]at h1 h2;refine⟨.cons ho.1 (.app (.app h3 h1) (.one hc.1)),fun x hx=> ?_⟩;rcases List.mem_cons.1 hx with rfl|hx
  ·exact ho.2
  rcases List.mem_append.1 hx with hx|hx
  ·rcases List.mem_append.1 hx with hx|hx
   ·exact h4 x hx
   ·exact h2 x hx
  ·rw[List.mem_singleton]at hx;rw[hx];exact hc.2
theorem vd_prB(n:Nat): ∀v:Vl,Rgt v-> ∀lev:Nat,Vd (prB false n lev v)/\ ∀c∈prB false n lev v,32<=c.toNat:=Vl.ind (fun k t ks is ih h lev=>by
 obtain⟨hn,h7⟩:=h.here;have hit:=h.item;rw[zP3]at hn;rw[prB_mk];by_cases h1:k=1
 ·rw[if_pos h1];exact⟨.low (by decide),by decide⟩
 rw[if_neg h1];by_cases h5:k=5
 ·rw[if_neg (by omega),if_pos h5];exact vd_list is (fun x hx=>ih x hx (hit x hx) (lev+1)) (by decide) (by decide) n lev
 rw[if_neg h5]at hn ⊢;by_cases h6:k=6
 ·rw[if_neg (by omega),if_pos h6,zip_texts];rw[if_pos h6]at hn;unfold zf9 at hn;simp only[Bool.and_eq_true,decide_eq_true_eq,List.all_eq_true]at hn;obtain⟨_,_,_,hval,_⟩:=hn;refine vd_list (ks.zip is) (fun q hq=> ?_) (by decide) (by decide) n lev;have hi:q.2∈is:=(List.of_mem_zip hq).2;have hk:q.1∈ks:=(List.of_mem_zip hq).1;have e:memB false q.1 (prB false n (lev+1) q.2)=qtB q.1++(58::prB false n (lev+1) q.2):=by unfold memB;simp
  obtain⟨a1,a2⟩:=vd_qt (hval q.1 hk);obtain⟨b1,b2⟩:=ih q.2 hi (hit _ hi) (lev+1);rw[e];refine⟨.app a1 (.cons (by decide) b1),fun c hc=> ?_⟩;rcases List.mem_append.1 hc with hc|hc
  ·exact a2 c hc
  rcases List.mem_cons.1 hc with rfl|hc
  ·decide
  ·exact b2 c hc
 rw[if_neg h6]at hn ⊢;simp only[Bool.and_eq_true,decide_eq_true_eq]at hn;obtain⟨_,hsc⟩:=hn;unfold zh7 at hsc;rw[if_neg h1]at hsc;by_cases h4:k=4
 ·rw[if_pos h4];rw[if_neg (by omega),if_neg (by omega),if_pos h4]at hsc;exact vd_qt hsc
 rw[if_neg h4];by_cases h2:k=2
 ·rw[if_pos h2]at hsc;simp only[Bool.or_eq_true,decide_eq_true_eq]at hsc;rcases hsc with rfl|rfl
  ·exact ⟨.low (by decide),by decide⟩
  ·exact ⟨.low (by decide),by decide⟩
 rw[if_neg h2]at hsc;by_cases h3:k=3
 ·rw[if_pos h3]at hsc;have hd:=(decM_num hsc).1;refine⟨.low (fun c hc=>(num_bytes (List.all_eq_true.1 hd c hc)).2.1),fun c hc=> ?_⟩;have:=(num_bytes (List.all_eq_true.1 hd c hc)).1;omega
 rw[if_neg h3,if_neg h4,if_neg h7]at hsc;cases hsc)
theorem key_byt {s:ByteArray} (h:0<s.size):keyL s.data.toList=if byt s 0=34\/byt s 0=39 then zj4 s.data.toList else if zh9 s.data.toList=true then(s.data.toList,0) else([],2):=by
 have e:=zg3 s 0 h;rw[List.drop_zero]at e;have l0:=zd3 s 0;have a1:UInt8.ofNat (byt s 0)=34↔byt s 0=34:=zd5 (m:=34) l0 (by omega);have a2:UInt8.ofNat (byt s 0)=39↔byt s 0=39:=zd5 (m:=39) l0 (by omega);rw[e];unfold keyL;simp only;by_cases h1:byt s 0=34\/byt s 0=39
 ·rw[if_pos h1,if_pos (h1.imp a1.2 a2.2)]
 ·rw[if_neg h1,if_neg (fun h=>h1 (h.imp a1.1 a2.1))]
theorem ykeyR_any(s:ByteArray)(w:World)(hT:tabs w)(hs:s.size<=1099511627776):
 Calls Tryz.prog 13 #[.string s] w (zt9 (keyL s.data.toList) w):=by
 have hst:st s.data.toList=s:=zo7 (by simp);have E0:=zj5 s [];by_cases h0:0<s.size
 ·have e0:(s.toList==[])=false:=by
   rw[E0];exact decide_eq_false (fun h=>by
    have hl:s.data.toList.length=s.size:=Array.length_toList;rw[h]at hl;simp at hl;omega)
  have y0:((s[0]'h0).toNat:Int)=(byt s 0:Int):=by rw[zb6 s 0 h0]
  have HK:=hq (key_byt h0);have HQ:=hq (yquot_any s w hT h0 hs);have HB:=hq (zp5 s w hT (by omega));have HSS:Hq (.string (st s.data.toList)=(.string s:Value)):=hq (by rw[hst]);generalize keyL s.data.toList=V at *;generalize zj4 s.data.toList=U at *;generalize zh9 s.data.toList=BL at *;generalize s.data.toList=L at *;clear E0 hT hst;by_cases h34:byt s 0=34
  ·have HN:=hq (HK.o.trans (if_pos (.inl h34)));have e1:((byt s 0:Int)==34)=true:=by rw[h34];rfl
   obtain⟨ub,ue⟩:=U;clear HK HB h34 HSS;go_enter Tryz.func13,Tryz.ntmps13
   go_wp2_with fail
   refine HQ.o.mono ?_;rintro e w1 ⟨rfl,hb⟩;clear HQ;go_wp2_with fail
   go_ret2
   exact⟨by rw[HN.o];rfl,hb⟩
  ·have e1:((byt s 0:Int)==34)=false:=beq_eq_false_iff_ne.2 (by omega);by_cases h39:byt s 0=39
   ·have HN:=hq (HK.o.trans (if_pos (.inr h39)));have e2:((byt s 0:Int)==39)=true:=by rw[h39];rfl
    obtain⟨ub,ue⟩:=U;clear HK HB h34 h39 HSS;go_enter Tryz.func13,Tryz.ntmps13
    go_wp2_with fail
    refine HQ.o.mono ?_;rintro e w1 ⟨rfl,hb⟩;clear HQ;go_wp2_with fail
    go_ret2
    exact⟨by rw[HN.o];rfl,hb⟩
   ·have e2:((byt s 0:Int)==39)=false:=beq_eq_false_iff_ne.2 (by omega);have HN1:=hq (HK.o.trans (if_neg (fun h=>h.elim h34 h39)));clear HK HQ h34 h39;cases BL with
    |true=>
     have HN:=hq (HN1.o.trans (if_pos rfl));clear HN1;go_enter Tryz.func13,Tryz.ntmps13
     go_wp2_with fail
     refine HB.o.mono ?_;rintro e w1 ⟨rfl,hb⟩;clear HB;go_wp2_with fail
     go_ret2
     exact⟨by rw[HN.o];simp only;rw[HSS.o];rfl,hb⟩
    |false=>
     have HN:=hq (HN1.o.trans (if_neg (by decide)));clear HN1 HSS;go_enter Tryz.func13,Tryz.ntmps13
     go_wp2_with fail
     refine HB.o.mono ?_;rintro e w1 ⟨rfl,hb⟩;clear HB;go_wp2_with fail
     go_ret2
     exact⟨by rw[HN.o];rfl,hb⟩
 ·have hnil:s.data.toList=[]:=by
   have:=zj3 s 0 h0;rwa [List.drop_zero]at this
  have e0:(s.toList==[])=true:=by rw[E0];exact decide_eq_true hnil
  have HN:Hq (keyL s.data.toList=([],2)):=hq (by rw[hnil];rfl);generalize keyL s.data.toList=V at *;clear E0 hst hT hnil;go_enter Tryz.func13,Tryz.ntmps13
  go_wp2_with fail
  go_ret2
  exact⟨by rw[HN.o];rfl,Below.refl _ _⟩
theorem ywkey_any(s:ByteArray)(w:World)(hT:tabs w)(hm:mx w)(hs:s.size<=1073741824):
 Calls Tryz.prog 23 #[.string s] w (zt9 (zs2 s.data.toList) w):=by
 have hst:st s.data.toList=s:=zo7 (by simp);have HQ:=hq (quote_any s w hT (by omega));have HB:=hq (fun W (h:Below w.heap.size w W)=>zp5 s W (zi5 hT h) (by omega));have HW:Hq (zs2 s.data.toList=if (valid s).2=true then(if zh9 s.data.toList=true then s.data.toList else inQ s.data.toList (zg6 s).1,0) else([],2)):=hq (by
  unfold zs2;rw[hst,←qt_text,hst])
 have HQY:Hq ((valid s).2=true->(zg6 s).2=0):=hq (fun h=>by rw[zu5 h]);have HQN:Hq ((valid s).2=false->(zg6 s).2=2):=hq (fun h=>by rw[quoteM_no (by rw[h];decide)]);have HQV:Hq ((valid s).2=true-> ∀W,Below w.heap.size w W->Calls Tryz.prog 50 #[.string s,.string (st (zg6 s).1)] W fun e w'=>e= .returned (.string (st (inQ s.data.toList (zg6 s).1)))/\Below W.heap.size W w'):=hq (fun h W hW=>by
  have hv:=(vd_qt (t:=s.data.toList) (by rw[hst];exact h)).1.valid;rw[←qt_text,hst]at hv;have hz:=quote_len s;have:=yinQ_any s (st (zg6 s).1) W (zi5 hT hW) (zo4 hm hW) hs (by rw[za8];omega) hv;rwa [zc7]at this)
 have HSS:Hq (.string (st s.data.toList)=(.string s:Value)):=hq (by rw[hst]);generalize zs2 s.data.toList=V at *;generalize zg6 s=U at *;obtain⟨ub,ue⟩:=U;generalize zh9 s.data.toList=BL at *;generalize inQ s.data.toList ub=IQ at *;generalize s.data.toList=L at *;simp only at HQY HQN HQV HQ HW;clear hT hm hst;generalize (valid s).2=VV at *;cases VV with
 |false=>
  have HN:=hq (HW.o.trans (if_neg (by decide)));have e1:(ue !=0)=true:=by rw[HQN.o rfl];rfl
  clear HW HQY HQN HQV HSS HB;go_enter Tryz.func23,Tryz.ntmps23
  go_wp2_with fail
  refine HQ.o.mono ?_;rintro e w1 ⟨rfl,hb⟩;clear HQ;go_wp2_with fail
  go_ret2
  exact⟨by rw[HN.o];rfl,hb⟩
 |true=>
  have HN1:=hq (HW.o.trans (if_pos rfl));have e1:(ue !=0)=false:=by rw[HQY.o rfl];rfl
  have HQV2:=hq (HQV.o rfl);clear HW HQY HQN HQV;cases BL with
  |true=>
   have HN:Hq (V=(L,0)):=hq HN1.o;clear HN1 HQV2;go_enter Tryz.func23,Tryz.ntmps23
   go_wp2_with fail
   refine HQ.o.mono ?_;rintro e w1 ⟨rfl,hb⟩;clear HQ;go_wp2_with fail
   refine(HB.o _ hb).mono ?_;rintro e w2 ⟨rfl,hb2⟩;have hb3:=za hb hb2;clear HB hb hb2;go_wp2_with fail
   go_ret2
   exact⟨by rw[HN.o];simp only;rw[HSS.o];rfl,hb3⟩
  |false=>
   have HN:Hq (V=(IQ,0)):=hq HN1.o;clear HN1 HSS;go_enter Tryz.func23,Tryz.ntmps23
   go_wp2_with fail
   refine HQ.o.mono ?_;rintro e w1 ⟨rfl,hb⟩;clear HQ;go_wp2_with fail
   refine(HB.o _ hb).mono ?_;rintro e w2 ⟨rfl,hb2⟩;have hb3:=za hb hb2;clear HB hb hb2;go_wp2_with fail
   refine(HQV2.o _ hb3).mono ?_;rintro e w3 ⟨rfl,hb4⟩;have hb5:=za hb3 hb4;clear HQV2 hb3 hb4;go_wp2_with fail
   go_ret2
   exact⟨by rw[HN.o];rfl,hb5⟩
end Go.Proofs.YtkafjblfjdpdaaaGreatDoor
