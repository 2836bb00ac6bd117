/-
  WALKS: rules.Parse.
-/
import Derived.Test.YtmadgdafgkleiaaGreatDoorRuR
import Derived.IntWalk
namespace Go.Proofs.YtmadgdafgkleiaaGreatDoor
open Go.RowKit
def lineEnd (s : Bs) : Nat := (1 + Lib.indexByte s 10).toNat
def rparseGo : Nat → Bs → List (List Bs × Bs) → List (List Bs × Bs) × Nat × Int
  | 0, _, acc => (acc, acc.length, 0)
  | f + 1, s, acc => if s = [] then (acc, acc.length, 0) else if acc.length = 32 then ([], 32, 3) else match ruleM (s.take (lineEnd s)) with
    | none => ([], acc.length, 2)
    | some r => rparseGo f (s.drop (lineEnd s)) (acc ++ [r])
def ruparseM (s : Bs) : List (List Bs × Bs) × Nat × Int := rparseGo (s.length + 1) s []
theorem ruleM_nil : ruleM [] = none := by kernel_rfl
def ruC (l : List RU) : List Value := l.flatMap fun r => [r.p.v, .string (st r.k)]
theorem ruC_snoc (l : List RU) (r : RU) : ruC (l ++ [r]) = ruC l ++ [r.p.v, .string (st r.k)] := by unfold ruC; simp
theorem ruC_at (l : List RU) : ∀ (i : Nat) (h : i < l.length), (ruC l)[i * 2]? = some l[i].p.v ∧ (ruC l)[i * 2 + 1]? = some (.string (st l[i].k)) := by
  induction l with
  | nil => intro i h; exact absurd h (by simp)
  | cons x l ih =>
    intro i h
    unfold ruC at ih ⊢
    rw [List.flatMap_cons]
    cases i with
    | zero => exact ⟨rfl, rfl⟩
    | succ i =>
      have := ih i (by simpa using h)
      rw [show (i + 1) * 2 = i * 2 + 1 + 1 by omega]
      simpa using this
structure RulesOwn (B : Nat) (l : List RU) (v : Value) (W : World) : Prop where
  row : W.ownsRow B 33 2 v l.length (ruC l)
  pat : ∀ r ∈ l, W.ownsRow B 9 1 r.p.v r.p.l.length (strV r.p.l)
theorem ownT {w : World} {B e n size : Nat} {v : Value} {xs : List Value} (h : w.ownsRow B e size v n xs) : ∀ g, v.ownBlock = some g → ∃ cur, w.heap[g]? = some (.cells cur e (0, 0)) := fun g hg => by
  rcases h.2 with ⟨rfl, _⟩ | ⟨g', cap', cur, rfl, hb, hg', _⟩
  · cases hg
  · have : g' = g := by simpa [Value.ownBlock] using hg
    subst this
    exact ⟨cur, hg'⟩
theorem ownT_ne {w : World} {B e n size B' e' n' size' : Nat} {v v' : Value} {xs xs' : List Value} (h : w.ownsRow B e size v n xs) (h' : w.ownsRow B' e' size' v' n' xs') (hne : e ≠ e') : v.ownBlock ≠ v'.ownBlock ∨ v.ownBlock = none := by
  cases hv : v.ownBlock with
  | none => exact .inr rfl
  | some g =>
    refine .inl fun e2 => ?_
    obtain ⟨c, hc⟩ := ownT h g hv
    obtain ⟨c', hc'⟩ := ownT h' g e2.symm
    rw [hc] at hc'
    cases hc'
    exact hne rfl
theorem RulesOwn.grow {B : Nat} {l : List RU} {v : Value} {W W' : World} (h : RulesOwn B l v W) (hb : Below W.heap.size W W') : RulesOwn B l v W' :=
  ⟨h.row.kept (row := none) ⟨hb.os, hb.tape, hb.output, hb.size, fun k hk _ => hb.block k hk⟩ (Classical.em _), fun r hr => own_below (h.pat r hr) hb⟩
theorem RulesOwn.ok {B : Nat} {l : List RU} {o : Option Addr} {c : Nat} {W : World} (h : RulesOwn B l (.slice o l.length c) W) (hs : ShtR l) : RulesOk W o c l := by
  refine ⟨?_, ?_, fun i hi => ?_, fun r hr => ⟨?_, (hs r hr).1.room⟩⟩
  · rcases h.row.2 with ⟨h1, h0⟩ | ⟨g, cap, cur, hv, _, _, hc, hm, _⟩
    · simp only [h0]; exact Nat.zero_le _
    · injection hv with _ _ e; subst e; exact hc
  · rcases h.row.2 with ⟨h1, h0⟩ | ⟨g, cap, cur, hv, _, _, hc, hm, _⟩
    · injection h1 with _ _ e; subst e; exact Nat.zero_le _
    · injection hv with _ _ e; subst e; exact hm
  · rcases h.row.2 with ⟨h1, h0⟩ | ⟨g, cap, cur, hv, _, _, _, _, _⟩
    · omega
    · injection hv with ho
      obtain ⟨q1, q2⟩ := ruC_at l i hi
      have hc1 := h.row.cells (g := g) (by rw [ho]; rfl) (i * 2) _ q1
      have hc2 := h.row.cells (g := g) (by rw [ho]; rfl) (i * 2 + 1) _ q2
      rw [Addr.add_lit, Nat.zero_add] at hc1 hc2
      exact ⟨g, 0, ho, by rw [Nat.zero_add]; exact hc1, by rw [Nat.zero_add]; exact hc2, own_srow (h.pat _ (List.getElem_mem hi))⟩
  · have := (hs r hr).2; unfold maxLen; omega
def RParsePost (x : List (List Bs × Bs) × Nat × Int) (W : World) (e : Ending) (W' : World) : Prop := ∃ l o c, e = .returned (.tuple #[.slice o l.length c, .int .i64 (x.2.1 : Int), .int .i64 x.2.2]) ∧ RulesOwn W.heap.size l (.slice o l.length c) W' ∧ l.map RU.m = x.1 ∧ Below W.heap.size W W'
theorem infoRu : (Tryz.prog.info? 33).map (fun i => (i.zero, i.size, i.bytes)) = some (some (.agg #[.slice none 0 0, .string ⟨#[]⟩]), 2, 40) := by kernel_rfl
theorem rparseGo_nil (f : Nat) (acc : List (List Bs × Bs)) : rparseGo f [] acc = (acc, acc.length, 0) := by
  cases f with
  | zero => rfl
  | succ f => rw [rparseGo, if_pos rfl]
theorem lineEnd_le (s : Bs) : lineEnd s ≤ s.length ∧ ((1 : Int) + Lib.indexByte s 10 = (lineEnd s : Int)) := by
  unfold lineEnd
  rcases indexByte_cut 10 s with ⟨h1, _⟩ | ⟨i, hi, h1, _⟩
  · rw [h1]; exact ⟨by simp, rfl⟩
  · rw [h1]; constructor <;> omega
theorem RulesOwn.add {B : Nat} {l : List RU} {v v' : Value} {W W' : World} {r : RU} (h : RulesOwn B l v W) (hp : W.ownsRow B 9 1 r.p.v r.p.l.length (strV r.p.l)) (hown : W'.ownsRow B 33 2 v' (l.length + 1) (ruC l ++ [r.p.v, .string (st r.k)])) (hg : W.grownBy W' v.ownBlock) : RulesOwn B (l ++ [r]) v' W' := by
  have hk : ∀ p : SRow, W.ownsRow B 9 1 p.v p.l.length (strV p.l) → W'.ownsRow B 9 1 p.v p.l.length (strV p.l) := fun p ho => ho.kept hg (by
    rcases ownT_ne ho h.row (by decide) with h1 | h1
    · exact .inr h1
    · exact .inl h1)
  refine ⟨by rw [List.length_append, List.length_singleton, ruC_snoc]; exact hown, fun x hx => ?_⟩
  rcases List.mem_append.1 hx with hx | hx
  · exact hk x.p (h.pat x hx)
  · rw [List.mem_singleton.1 hx]; exact hk r.p hp
set_option maxHeartbeats 4000000 in
set_option maxRecDepth 1000000 in
theorem ruparse_any (s : Bs) (W : World) (hT : tabs W) (hM : mx W) (hs : s.length ≤ 33554432) : Calls Tryz.prog 9 #[.string (st s)] W (RParsePost (ruparseM s) W) := by
  obtain ⟨i0, hi, hz0, hz1, hz2⟩ := info_parts infoRu
  have HRU := hq (fun (t : Bs) WW (hb : Below W.heap.size W WW) (ht : t.length ≤ 33554432) => rule_any t WW (tabs_grow hT hb) (mx_grow hM hb) ht)
  have HBAD : Hq (∀ (n : Nat) (er : Int) W', ruparseM s = ([], n, er) → Below W.heap.size W W' → RParsePost (ruparseM s) W (.returned (.tuple #[.slice none 0 0, .int .i64 (n : Int), .int .i64 er])) W') := hq (fun n er W' h hb => by rw [h]; exact ⟨[], none, 0, rfl, ⟨World.ownsRow_nil _ _ _ _, fun r hr => by cases hr⟩, rfl, hb⟩)
  have HOK : Hq (∀ (l : List RU) o c W', ruparseM s = (l.map RU.m, l.length, 0) → RulesOwn W.heap.size l (.slice o l.length c) W' → Below W.heap.size W W' → RParsePost (ruparseM s) W (.returned (.tuple #[.slice o l.length c, .int .i64 (l.length : Int), .int .i64 0])) W') := hq (fun l o c W' h hr hb => by rw [h]; exact ⟨l, o, c, rfl, hr, rfl, hb⟩)
  have HIX := hq (fun (r : Bs) WW => Tryz.strings_IndexByte (st r) 10 WW)
  have HG : Hq (ruparseM s = rparseGo (s.length + 1) s []) := hq rfl
  generalize RParsePost (ruparseM s) W = PP at *
  generalize ruparseM s = RM at *
  clear hT hM
  go_enter Tryz.func9, Tryz.ntmps9
  go_wp2_with fail
  go_loopg [0, 5, 6, 7, 8] (s.length + 1) (fun gk u v _ _ _ wr => ∃ (r : Bs) (l : List RU) (o : Option Addr) (c : Nat), u = .string (st r) ∧ r.length < gk ∧ r.length ≤ 33554432 ∧ l.length ≤ 32 ∧ v = .slice o l.length c ∧ Hq (RM = rparseGo gk r (l.map RU.m)) ∧ Hq (RulesOwn W.heap.size l (.slice o l.length c) wr) ∧ Hq (Below W.heap.size W wr))
  case atStart => exact ⟨s, [], none, 0, rfl, Nat.lt_succ_self _, hs, Nat.zero_le _, rfl, HG, hq ⟨World.ownsRow_nil _ _ _ _, fun r hr => by cases hr⟩, hq (Below.refl _ _)⟩
  case round =>
    obtain ⟨r, l, o, c, rfl, hr, hrl, hl32, rfl, hrm, hown, hb⟩ := hrel
    clear HG
    obtain ⟨f, rfl⟩ : ∃ f, gk = f + 1 := ⟨gk - 1, by omega⟩
    cases hre : r with
    | nil =>
      have HV := hq (HOK.o l o c wr (by rw [hrm.o, hre, rparseGo_nil, List.length_map]) hown.o hb.o)
      clear HBAD HOK HRU HIX hrm hown hb hre
      go_wp2_with fail
      go_ret3
      exact HV.o
    | cons x t =>
      have hne : r ≠ [] := by rw [hre]; simp
      have e1 : (r == ([] : Bs)) = false := by rw [hre]; rfl
      have e1' : (r != ([] : Bs)) = true := by rw [hre]; rfl
      rw [← hre]
      have hg1 : rparseGo (f + 1) r (l.map RU.m) = if l.length = 32 then ([], 32, 3) else match ruleM (r.take (lineEnd r)) with
        | none => ([], l.length, 2)
        | some q => rparseGo f (r.drop (lineEnd r)) (l.map RU.m ++ [q]) := by rw [rparseGo, if_neg hne, List.length_map]
      have HG1 := hq (hrm.o.trans hg1)
      clear hrm hg1 hre hne
      by_cases hfull : l.length = 32
      · have hfz : ((l.length : Int) == 32) = true := by rw [beq_iff_eq]; omega
        have HV := hq (HBAD.o 32 3 wr (by rw [HG1.o, if_pos hfull]) hb.o)
        have hl : ((l.length : Nat) : Int) = 32 := by omega
        clear HBAD HOK HRU HIX hown hb HG1 hfull
        go_wp2_with fail
        go_ret3
        exact HV.o
      · have hfz : ((l.length : Int) == 32) = false := by rw [beq_eq_false_iff_ne]; omega
        have HG2 := hq (HG1.o.trans (if_neg hfull))
        have HL31 := hq (show l.length < 32 by omega)
        obtain ⟨hle, hix⟩ := lineEnd_le r
        have HI : Hq (∀ WW, Calls Tryz.prog 21 #[.string (st r), .int .u8 10] WW fun e w' => e = .returned (.int .i64 (Lib.indexByte r 10)) ∧ w' = WW) := hq (fun WW => HIX.o r WW)
        generalize Lib.indexByte r 10 = ix at *
        have hixw : IntKind.i64.wrap (1 + ix) = (lineEnd r : Int) := by rw [hix, IntWalk.i64_in _ (by omega)]
        have HTL := hq (show ruleM (r.take (lineEnd r)) = none ∨ 0 < lineEnd r from by
          rcases Nat.eq_zero_or_pos (lineEnd r) with h | h
          · left; rw [h]; exact ruleM_nil
          · exact .inr h)
        have e2 : (st r).extract 0 (lineEnd r) = st (r.take (lineEnd r)) := st_take r _
        have e3 : (st r).extract (lineEnd r) r.length = st (r.drop (lineEnd r)) := by
          have := st_drop r (lineEnd r)
          rw [st_size] at this
          exact this
        have hlz : (lineEnd r : Int) ≤ (r.length : Int) := by omega
        have htl : (r.take (lineEnd r)).length ≤ 33554432 := by rw [List.length_take]; omega
        have hdl : (r.drop (lineEnd r)).length = r.length - lineEnd r := List.length_drop ..
        have HRC := hq (HRU.o (r.take (lineEnd r)) wr hb.o htl)
        unfold RulePost at HRC
        clear HG1 HIX hfull htl
        generalize r.take (lineEnd r) = tk at *
        generalize r.drop (lineEnd r) = dr at *
        generalize lineEnd r = le at *
        clear hix
        cases hrm : ruleM tk with
        | none =>
          have HR0 : Hq (RM = ([], l.length, 2)) := hq (by rw [HG2.o, hrm])
          rw [hrm] at HRC
          simp only at HRC
          clear HG2 HRU HOK HTL hrm
          go_wp2_with fail
          refine HI.o wr |>.mono ?_
          rintro e w2 ⟨rfl, rfl⟩
          go_wp2_with fail
          refine HRC.o.mono ?_
          rintro e W3 ⟨⟨o', n', c', y', rfl⟩, hb3⟩
          have HV := hq (HBAD.o l.length 2 _ HR0.o (below_trans (below_trans hb.o hb3) (below_alloc W3 (.cells #[.slice o' n' c', .string y'] 33))))
          clear HBAD hb3 HRC HI hown hb
          go_wp2_with fail
          go_ret3
          exact HV.o
        | some q =>
          obtain ⟨pp, k⟩ := q
          have HG3 := hq (show RM = rparseGo f dr (l.map RU.m ++ [(pp, k)]) by rw [HG2.o, hrm])
          have hpos := HTL.o.resolve_left (by rw [hrm]; simp)
          rw [hrm] at HRC
          simp only at HRC
          clear HG2 HRU HBAD HTL hrm
          go_wp2_with fail
          refine HI.o wr |>.mono ?_
          rintro e w2 ⟨rfl, rfl⟩
          go_wp2_with fail
          refine HRC.o.mono ?_
          rintro e W3 ⟨o', c', rfl, hp3, hb3⟩
          have HB3 := hq (below_trans hb.o hb3)
          have HO3 := hq (hown.o.grow hb3)
          have HP3 := hq (row_baseP hp3 hb.o.size)
          have hb4 := below_alloc W3 (.cells #[.slice o' pp.length c', .string (st k)] 33)
          have HW4 := hq (Whole.made W3 33 #[.slice o' pp.length c', .string (st k)])
          have HB4 := hq (below_trans HB3.o hb4)
          have HO4 := hq (HO3.o.grow hb4)
          have HP4 := hq (own_below HP3.o hb4)
          clear hb3 hp3 HRC HI hown hb HB3 HO3 HP3 hb4
          go_upto_region 7 with fail
          generalize W3.alloc (.cells #[.slice o' pp.length c', .string (st k)] 33) = W4 at *
          generalize W3.heap.size = bR at *
          have x0 := HW4.o.at_ 0
          have x1 := HW4.o.at_ 1
          have hb5 := below_alloc W4 (.cells #[.slice o' pp.length c', .string (st k)] 33)
          have HB5 := hq (below_trans HB4.o hb5)
          have HO5 := hq (HO4.o.grow hb5)
          have HP5 := hq (own_below HP4.o hb5)
          have hsz := (below_trans HB4.o hb5).size
          clear hb5
          go_wp2_with (at_builtin; refine wpList_append_own _ rfl _ _ 22 rfl W.heap.size 33 i0 (.agg #[.slice none 0 0, .string ⟨#[]⟩]) 2 40 Tryz.underlying22 hi hz0 hz1 hz2 rfl (by decide) _ _ _ rfl HO5.o.row ⟨W4.heap.size, 0, none⟩ 1 1 [.slice o' pp.length c', .string (st k)] rfl rfl (cells_of_new _ [.slice o' pp.length c', .string (st k)] _) (by simp [Value.oneCell']) (by unfold maxLen; omega) (by omega) hsz ?_)
          intro v' W6 hown6 hgrow6 _
          have hadd := HO5.o.add (r := ⟨⟨o', c', pp⟩, k⟩) HP5.o hown6 hgrow6
          have hB6 := HB5.o.grown hgrow6 HB5.o.size (fun j ej => (HO5.o.row.lt j ej).1)
          have e4 : (l ++ [(⟨⟨o', c', pp⟩, k⟩ : RU)]).length = l.length + 1 := by simp
          have e5 : (l ++ [(⟨⟨o', c', pp⟩, k⟩ : RU)]).map RU.m = l.map RU.m ++ [(pp, k)] := by rw [List.map_append]; rfl
          obtain ⟨o6, c6, rfl⟩ := row_shapeP hown6
          have HADD := hq hadd
          have HB6 := hq hB6
          have HE4 := hq e4
          have HE5 := hq e5
          clear hadd hB6 e4 e5 hown6 hgrow6 HO5 HP5 HB5 HO4 HP4 HB4 HW4 x0 x1
          go_wp2_with fail
          go_roundg f
          case measure => omega
          case rel =>
            refine ⟨dr, l ++ [⟨⟨o', c', pp⟩, k⟩], o6, c6, rfl, by omega, by omega, by have := HE4.o; have := HL31.o; omega, by rw [HE4.o], hq (by rw [HE5.o]; exact HG3.o), hq (by rw [HE4.o]; exact HADD.o), HB6⟩
end Go.Proofs.YtmadgdafgkleiaaGreatDoor

