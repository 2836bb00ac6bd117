/-
  WALK: print.printer's value: what it writes of a tree.
-/
import Derived.Test.YtnlkokgekjlmmaaGreatDoorPrD
namespace Go.Proofs.YtnlkokgekjlmmaaGreatDoor
open Go.RowKit
mutual
def prB (ls : Bool) (n : Nat) : Nat → Vl → Bs
  | lev, .mk k t ks is =>
    if k = 1 then [110, 117, 108, 108] else if k = 4 then qtB t else if k = 5 then listB ls n lev 91 93 (prBs ls n (lev + 1) is)
    else if k = 6 then listB ls n lev 123 125 (List.zipWith (memB ls) ks (prBs ls n (lev + 1) is)) else t
def prBs (ls : Bool) (n : Nat) : Nat → List Vl → List Bs
  | _, [] => []
  | lev, x :: r => prB ls n lev x :: prBs ls n lev r
end
theorem prBs_map (ls : Bool) (n lev : Nat) : ∀ l : List Vl, prBs ls n lev l = l.map (prB ls n lev)
  | [] => rfl
  | x :: l => by simp only [prBs, List.map_cons, prBs_map ls n lev l]
theorem prB_mk (ls : Bool) (n lev : Nat) (k : Int) (t : Bs) (ks : List Bs) (is : List Vl) : prB ls n lev (.mk k t ks is) =
    if k = 1 then [110, 117, 108, 108] else if k = 4 then qtB t else if k = 5 then listB ls n lev 91 93 (is.map (prB ls n (lev + 1)))
    else if k = 6 then listB ls n lev 123 125 (List.zipWith (memB ls) ks (is.map (prB ls n (lev + 1)))) else t := by
  simp only [prB, prBs_map]
def PrOk (v : Vl) : Prop := (v.k = 6 → v.ks.length = v.is.length) ∧ v.t.length ≤ 1099511627776 ∧ ∀ x ∈ v.ks, x.length ≤ 1099511627776
theorem enter_one (args : Array Value) (w : World) : (callFunc 93 args).run Tryz.prog w = .ok (.enter 93 args) w := by kernel_rfl
theorem enter_named (args : Array Value) (w : World) : (callFunc 94 args).run Tryz.prog w = .ok (.enter 94 args) w := by kernel_rfl
set_option maxHeartbeats 8000000 in
set_option maxRecDepth 1000000 in
theorem pvalue {w0 : World} (b : Nat) (ls : Bool) (n : Nat) (hn : n ≤ 1000) (hT : tabs w0) : ∀ (x : Vt) (l : Bs) (lev : Nat) (w : World), x.Ok w0 → x.m.All PrOk → Below w0.heap.size w0 w → Prn w0.heap.size b l ls (n : Int) w → lev + x.m.depth ≤ 999999 → l.length + (prB ls n lev x.m).length ≤ 140737488355328 →
    Calls Tryz.prog 50 #[.pointer (some ⟨b, 0, none⟩), x.v, .int .i64 (lev : Int)] w (PrPost w0.heap.size b (l ++ prB ls n lev x.m) ls (n : Int) w) := Vt.ind (fun k t ks o c is ih l lev w hok hal hb h hd hl => by
  obtain ⟨ko, kc, kl⟩ := ks
  have hok' := hok
  have hil := hok.hl
  have hic := hok.hc
  have hk := hok.hk
  unfold maxLen at hic
  rw [Vt.m_mk] at *
  rw [Vt.v_mk'] at *
  simp only at *
  obtain ⟨hky, htx, hkx⟩ := hal.here
  simp only [Vl.k, Vl.t, Vl.ks, Vl.is, List.length_map] at hky htx hkx
  have hali := Vl.All.items hal
  simp only [Vl.depth] at hd
  have hgr : ∀ W, Below w.heap.size w W → Below w0.heap.size w0 W := fun W hW => hb.trans (hW.mono hb.size)
  have hd1 : ((lev + 1 : Nat) : Int) = (lev : Int) + 1 := by omega
  have hlev : lev ≤ 999998 := by omega
  have HIH : ∀ (j : Nat) (hj : j < is.length) (l' : Bs) (W : World), Below w0.heap.size w0 W → Prn w0.heap.size b l' ls (n : Int) W → l'.length + (prB ls n (lev + 1) is[j].m).length ≤ 140737488355328 → Calls Tryz.prog 50 #[.pointer (some ⟨b, 0, none⟩), is[j].v, .int .i64 ((lev : Int) + 1)] W (PrPost w0.heap.size b (l' ++ prB ls n (lev + 1) is[j].m) ls (n : Int) W) := fun j hj l' W h1 h2 h3 => by
    have hm : is[j] ∈ is := List.getElem_mem hj
    have := ih is[j] hm l' (lev + 1) W (hok'.item j hj) (hali _ (List.mem_map.2 ⟨_, hm, rfl⟩)) h1 h2 (by have := Vl.depths_le is[j].m (List.mem_map.2 ⟨_, hm, rfl⟩); omega) h3
    rwa [hd1] at this
  have HS := hq (fun (t' : Bs) W (hW : Below w.heap.size w W) (h1 : l.length + t'.length ≤ 140737488355328) => (pstring w0.heap.size b l t' ls (n : Int) W (h.grow hW) h1 (hgr W hW).size).mono (fun e W' hh => (⟨hh.1, hh.2.after hW hb.size⟩ : (∃ m, e = Ending.returned (.tuple #[.int .i64 m, .nilIface])) ∧ PrW w0.heap.size b (l ++ t') ls (n : Int) w W')))
  have HQ : Hq (∀ W, Below w.heap.size w W → l.length + (qtB t).length ≤ 140737488355328 → Calls Tryz.prog 91 #[.pointer (some ⟨b, 0, none⟩), .string (st t)] W (PrPost w0.heap.size b (l ++ qtB t) ls (n : Int) w)) := hq (fun W hW h1 => (pquoted w0.heap.size b l t ls (n : Int) W (tabs_below hT (hgr W hW) (tabs_size hT).1 (tabs_size hT).2) (h.grow hW) htx h1 (hgr W hW).size).mono (fun e W' hh => ⟨hh.1, hh.2.after hW hb.size⟩))
  have HL5 : Hq (∀ W, Below w.heap.size w W → l.length + (listB ls n lev 91 93 ((is.map Vt.m).map (prB ls n (lev + 1)))).length ≤ 140737488355328 → Calls Tryz.prog 92 #[.pointer (some ⟨b, 0, none⟩), .string (st [91]), .string (st [93]), .int .i64 (is.length : Int), .int .i64 (lev : Int), .func (.func 93) #[.agg #[.pointer (some ⟨b, 0, none⟩), .int .i64 k, .string (st t), .slice ko kl.length kc, .slice o is.length c]] #[]] W (PrPost w0.heap.size b (l ++ listB ls n lev 91 93 ((is.map Vt.m).map (prB ls n (lev + 1)))) ls (n : Int) w)) := hq (fun W hW h1 => by
    have := plist (w0 := w0) b l ls n lev 91 93 ((is.map Vt.m).map (prB ls n (lev + 1))) 93 (.agg #[.pointer (some ⟨b, 0, none⟩), .int .i64 k, .string (st t), .slice ko kl.length kc, .slice o is.length c]) W enter_one (fun j hj l' W' h2 h3 h4 => by
      have hj' : j < is.length := by simpa using hj
      have e1 : ((is.map Vt.m).map (prB ls n (lev + 1)))[j] = prB ls n (lev + 1) is[j].m := by simp
      rw [e1] at h4 ⊢
      exact pone b l' _ ls (n : Int) ((lev : Int) + 1) k t ko kc kl o c is j hj' W' hok' h2 h3 (fun W'' h5 h6 => HIH j hj' l' W'' h5 h6 h4)) (hgr W hW) (h.grow hW) hn (by omega) (by simp; omega) h1
    rw [List.length_map, List.length_map] at this
    exact this.mono (fun e W' hh => ⟨hh.1, hh.2.after hW hb.size⟩))
  have HL6 : Hq (∀ W, k = 6 → Below w.heap.size w W → l.length + (listB ls n lev 123 125 (List.zipWith (memB ls) kl ((is.map Vt.m).map (prB ls n (lev + 1))))).length ≤ 140737488355328 → Calls Tryz.prog 92 #[.pointer (some ⟨b, 0, none⟩), .string (st [123]), .string (st [125]), .int .i64 (is.length : Int), .int .i64 (lev : Int), .func (.func 94) #[.agg #[.pointer (some ⟨b, 0, none⟩), .int .i64 k, .string (st t), .slice ko kl.length kc, .slice o is.length c]] #[]] W (PrPost w0.heap.size b (l ++ listB ls n lev 123 125 (List.zipWith (memB ls) kl ((is.map Vt.m).map (prB ls n (lev + 1))))) ls (n : Int) w)) := hq (fun W hk6 hW h1 => by
    have hkl := hky hk6
    have hzl : (List.zipWith (memB ls) kl ((is.map Vt.m).map (prB ls n (lev + 1)))).length = is.length := by simp; omega
    have := plist (w0 := w0) b l ls n lev 123 125 (List.zipWith (memB ls) kl ((is.map Vt.m).map (prB ls n (lev + 1)))) 94 (.agg #[.pointer (some ⟨b, 0, none⟩), .int .i64 k, .string (st t), .slice ko kl.length kc, .slice o is.length c]) W enter_named (fun j hj l' W' h2 h3 h4 => by
      have hj' : j < is.length := by rwa [hzl] at hj
      have hjk : j < kl.length := by omega
      have e1 : (List.zipWith (memB ls) kl ((is.map Vt.m).map (prB ls n (lev + 1))))[j] = memB ls kl[j] (prB ls n (lev + 1) is[j].m) := by simp
      rw [e1] at h4 ⊢
      exact pnamed b l' _ ls (n : Int) ((lev : Int) + 1) k t ko kc kl o c is j hj' hjk W' hok' hT h2 h3 (hkx _ (List.getElem_mem hjk)) h4 (fun l'' W'' h5 h6 h7 => HIH j hj' l'' W'' h5 h6 h7)) (hgr W hW) (h.grow hW) hn (by omega) (by omega) h1
    rw [hzl] at this
    exact this.mono (fun e W' hh => ⟨hh.1, hh.2.after hW hb.size⟩))
  have hpr := prB_mk ls n lev k t kl (is.map Vt.m)
  have HP : Hq (∀ (q : Bs) W', l ++ prB ls n lev (.mk k t kl (is.map Vt.m)) = l ++ q → PrW w0.heap.size b (l ++ q) ls (n : Int) w W' → PrPost w0.heap.size b (l ++ prB ls n lev (.mk k t kl (is.map Vt.m))) ls (n : Int) w (.returned (.tuple #[])) W') := hq (fun q W' he h2 => ⟨rfl, he ▸ h2⟩)
  have HLN := hq hl
  generalize PrPost w0.heap.size b (l ++ prB ls n lev (.mk k t kl (is.map Vt.m))) ls (n : Int) w = PP at *
  generalize prB ls n lev (.mk k t kl (is.map Vt.m)) = PB at *
  have HPR := hq hpr
  have HB0 := hq (below_alloc w (.cells #[.int .i64 k, .string (st t), .slice ko kl.length kc, .slice o is.length c] 25))
  have hW0 := Whole.made w 25 #[.int .i64 k, .string (st t), .slice ko kl.length kc, .slice o is.length c]
  obtain ⟨c0, c1, c2, c3⟩ := four_cells hW0
  clear hok hok' ih hal hali hgr HIH hpr hl hb h hky htx hkx hT hd hW0 hd1
  go_enter Tryz.func50, Tryz.ntmps50
  go_upto_region 1 with fail
  generalize w.heap.size = g at c0 c1 c2 c3
  generalize (w.alloc (.cells #[.int .i64 k, .string (st t), .slice ko kl.length kc, .slice o is.length c] 25)) = V0 at *
  have hmf : ∀ (fn : Fn) (first cap : Array Value) (w : World), (Instr.makeFunc fn first cap).run Tryz.prog w = .ok (.func fn first cap) w := fun _ _ _ _ => rfl
  by_cases hk1 : k = 1
  · have HE : Hq (PB = [110, 117, 108, 108]) := hq (by rw [HPR.o, if_pos hk1])
    have HC := hq (HS.o [110, 117, 108, 108] V0 HB0.o (by rw [← HE.o]; exact HLN.o))
    have HV := hq (fun W' => HP.o [110, 117, 108, 108] W' (by rw [HE.o]))
    clear HS HQ HL5 HL6 HP HPR HLN HE
    go_wp2_with fail
    refine HC.o.mono ?_
    rintro e w2 ⟨⟨m, rfl⟩, h2⟩
    have HU := hq (HV.o w2 h2)
    clear HV HC h2
    go_wp2_with fail
    first
      | exact HU.o
      | (go_end0
         exact HU.o)
  rw [if_neg hk1] at HPR
  by_cases hk4 : k = 4
  · have HE : Hq (PB = qtB t) := hq (by rw [HPR.o, if_pos hk4])
    have HC := hq (HQ.o V0 HB0.o (by rw [← HE.o]; exact HLN.o))
    have HV := hq (fun W' => HP.o (qtB t) W' (by rw [HE.o]))
    clear HS HQ HL5 HL6 HP HPR HLN HE
    generalize qtB t = Q at *
    go_wp2_with fail
    refine HC.o.mono ?_
    rintro e w2 ⟨rfl, h2⟩
    have HU := hq (HV.o w2 h2)
    clear HV HC h2
    go_wp2_with fail
    first
      | exact HU.o
      | (go_end0
         exact HU.o)
  rw [if_neg hk4] at HPR
  by_cases hk5 : k = 5
  · have HE : Hq (PB = listB ls n lev 91 93 ((is.map Vt.m).map (prB ls n (lev + 1)))) := hq (by rw [HPR.o, if_pos hk5])
    have HC := hq (HL5.o V0 HB0.o (by rw [← HE.o]; exact HLN.o))
    have HV := hq (fun W' => HP.o (listB ls n lev 91 93 ((is.map Vt.m).map (prB ls n (lev + 1)))) W' (by rw [HE.o]))
    clear HS HQ HL5 HL6 HP HPR HLN HE
    generalize listB ls n lev 91 93 ((is.map Vt.m).map (prB ls n (lev + 1))) = Q at *
    clear hk1 hk4
    have hk1 : ¬ k = 1 := by omega
    have hk4 : ¬ k = 4 := by omega
    rw [hk5] at HC
    go_wp2_with fail
    refine HC.o.mono ?_
    rintro e w2 ⟨rfl, h2⟩
    have HU := hq (HV.o w2 h2)
    clear HV HC h2
    go_wp2_with fail
    first
      | exact HU.o
      | (go_end0
         exact HU.o)
  rw [if_neg hk5] at HPR
  by_cases hk6 : k = 6
  · have HE : Hq (PB = listB ls n lev 123 125 (List.zipWith (memB ls) kl ((is.map Vt.m).map (prB ls n (lev + 1))))) := hq (by rw [HPR.o, if_pos hk6])
    have HC := hq (HL6.o V0 hk6 HB0.o (by rw [← HE.o]; exact HLN.o))
    have HV := hq (fun W' => HP.o (listB ls n lev 123 125 (List.zipWith (memB ls) kl ((is.map Vt.m).map (prB ls n (lev + 1))))) W' (by rw [HE.o]))
    clear HS HQ HL5 HL6 HP HPR HLN HE
    generalize listB ls n lev 123 125 (List.zipWith (memB ls) kl ((is.map Vt.m).map (prB ls n (lev + 1)))) = Q at *
    clear hk1 hk4 hk5
    have hk1 : ¬ k = 1 := by omega
    have hk4 : ¬ k = 4 := by omega
    have hk5 : ¬ k = 5 := by omega
    rw [hk6] at HC
    go_wp2_with fail
    refine HC.o.mono ?_
    rintro e w2 ⟨rfl, h2⟩
    have HU := hq (HV.o w2 h2)
    clear HV HC h2
    go_wp2_with fail
    first
      | exact HU.o
      | (go_end0
         exact HU.o)
  · rw [if_neg hk6] at HPR
    have HC := hq (fun W hW => HS.o t W hW (by rw [← HPR.o]; exact HLN.o))
    have HV := hq (fun W' => HP.o t W' (by rw [HPR.o]))
    clear HS HQ HL5 HL6 HP HPR HLN
    go_wp2_with fail
    go_region_with (go_at_call 90; refine (HC.o _ HB0.o.drew).mono ?_; rintro e w2 ⟨⟨m, rfl⟩, h2⟩; have HU := hq (HV.o w2 h2))
    all_goals (go_wp2_with fail; first | exact HU.o | (go_end0; exact HU.o)))
end Go.Proofs.YtnlkokgekjlmmaaGreatDoor
