/-
  THE WALK OF THE LAW MarkPicks.
-/
import Derived.Test.YtekihjffefokjaaDoorRgI
namespace Go.Proofs.YtekihjffefokjaaDoor
open Go.RowKit

/-- a hunk with the sides of a part -/
def moreM (x : MPart) : MPart := ⟨true, [], x.s0, x.s1, x.s2⟩
theorem more_right {l : List MPart} (h : rightB l = true) (h60 : l.length ≤ 60) (x : MPart) : rightB (l ++ [moreM x]) = true := by
  rw [rightB_iff] at h ⊢
  exact ⟨by rw [List.length_append, List.length_singleton]; omega, okL_app (moreM x) rfl rfl l true h.2⟩
theorem pick_right {l : List MPart} {ps : List Int} {S : Bs} (h : pickB l ps = some S) : rightB l = true := by
  unfold pickB at h
  split at h
  · assumption
  · cases h
theorem more_pick {l : List MPart} {ps : List Int} {S : Bs} (h : pickB l ps = some S) (h60 : l.length ≤ 60) (x : MPart) {i : Int} (hi : 0 ≤ i ∧ i ≤ 2) : pickB (l ++ [moreM x]) (ps ++ [i]) = some (S ++ sideM x i) := by
  have hr := pick_right h
  unfold pickB at h ⊢
  rw [if_pos hr] at h
  rw [if_pos (more_right hr h60 x)]
  exact pickGo_more (moreM x) rfl i hi l ps S h
theorem more_none {l : List MPart} {ps : List Int} {S : Bs} (h : pickB l ps = some S) (x : MPart) : pickB (l ++ [moreM x]) ps = none := by
  have hr := pick_right h
  unfold pickB at h ⊢
  rw [if_pos hr] at h
  have hn := pickGo_nH h
  rw [pickGo_len _ ps (by rw [nH_app]; show nH l + 1 ≠ _; omega)]
  split <;> rfl

theorem pickGo_le (N : Nat) : ∀ (l : List MPart) (ps : List Int) (t : Bs), (∀ x ∈ l, Lens N x) → pickGo l ps = some t → t.length ≤ l.length * N
  | [], [], t, _, h => by
    have := Option.some.inj h
    subst this
    exact Nat.zero_le _
  | [], _ :: _, t, _, h => by cases h
  | y :: l, ps, t, hl, h => by
    have hy := hl y (List.mem_cons_self ..)
    have hl' : ∀ x ∈ l, Lens N x := fun x hx => hl x (List.mem_cons_of_mem _ hx)
    have e1 : (y :: l).length * N = l.length * N + N := by rw [List.length_cons, Nat.add_mul, Nat.one_mul]
    rw [e1]
    cases hh : y.hunk with
    | true =>
      cases ps with
      | nil => rw [pickGo_none hh] at h; cases h
      | cons p ps =>
        by_cases hp : 0 ≤ p ∧ p ≤ 2
        · rw [pickGo_hunk hh hp] at h
          cases hu : pickGo l ps with
          | none => rw [hu] at h; cases h
          | some u =>
            rw [hu] at h
            have := Option.some.inj h
            subst this
            have h1 := pickGo_le N l ps u hl' hu
            have h2 : (sideM y p).length ≤ N := by
              unfold sideM
              split
              · exact hy.2.1
              · split
                · exact hy.2.2.1
                · exact hy.2.2.2
            rw [List.length_append]; omega
        · rw [pickGo_bad hh hp] at h; cases h
    | false =>
      rw [pickGo_text hh] at h
      cases hu : pickGo l ps with
      | none => rw [hu] at h; cases h
      | some u =>
        rw [hu] at h
        have := Option.some.inj h
        subst this
        have h1 := pickGo_le N l ps u hl' hu
        have h2 := hy.1
        rw [List.length_append]; omega
theorem infoInt : (Tryd.prog.info? 3).map (fun i => (i.zero, i.size, i.bytes)) = some (some (.int .i64 0), 1, 8) := by kernel_rfl
abbrev mcL (s0 s1 s2 : Bs) : List Value := [.bool true, .string (st []), .string (st s0), .string (st s1), .string (st s2)]
def mcV (s0 s1 s2 : Bs) : Value := .agg #[.bool true, .string (st []), .string (st s0), .string (st s1), .string (st s2)]
theorem tf {x : Bool} {p : Prop} (h : x = true) (h' : x = false) : p := by rw [h] at h'; cases h'
theorem own_form {w : World} {B e size n : Nat} {v : Value} {xs : List Value} (h : w.ownsRow B e size v n xs) (hn : 0 < n) : ∃ g cap, v = .slice (some ⟨g, 0, none⟩) n cap ∧ n ≤ cap ∧ ∀ ad, some (⟨g, 0, none⟩ : Addr) = some ad → ∀ j u, xs[j]? = some u → w.cell? (ad.add j) = some u := by
  rcases h.2 with ⟨_, h0⟩ | ⟨g, cap, cur, rfl, _, _, hc, _⟩
  · omega
  · exact ⟨g, cap, rfl, hc, fun ad had => by have := Option.some.inj had; subst this; exact h.cells rfl⟩
theorem allB {o : Oper} {b : Nat → Bool} {n : Nat} (h : (o.after.all fun e => !Region.binds .any e || decide (e.on < n)) = true) (ts : ∀ j, j < n → b j = true) : ∀ e ∈ o.after, Region.binds .any e = true → b e.on = true := fun e he hb => by
  have := Array.all_eq_true_iff_forall_mem.1 h e he
  rw [hb] at this
  exact ts _ (of_decide_eq_true this)
theorem depB {o : Oper} {b : Nat → Bool} (hd : ∀ e ∈ o.after, Region.binds .any e = true → b e.on = true) {n : Nat} (h : (o.after.any fun e => Region.binds .any e && (e.on == n)) = true) : b n = true := by
  rw [← Array.any_toList, List.any_eq_true] at h
  obtain ⟨e, he, h2⟩ := h
  rw [Bool.and_eq_true, beq_iff_eq] at h2
  rw [← h2.2]
  exact hd e (by simpa using he) h2.1
theorem upS {b : Nat → Bool} {n : Nat} (ts : ∀ j, j < n → b j = true) (t : b n = true) : ∀ j, j < n + 1 → b j = true := fun j hj => by
  by_cases h : j = n
  · rw [h]; exact t
  · exact ts j (by omega)
structure PF9 (o : Option Addr) (cap : Nat) (l : List MPart) (po : Option Addr) (pc : Nat) (ps : List Int) (z : Int) (s0 s1 s2 : Bs) (r0 r1 r2 : Value) (b : Nat → Bool) (f : Nat → Own) (x14 x15 x39 x40 x41 x42 x43 x44 x45 x46 x47 x48 x49 x50 x51 x52 x53 x54 : Value) : Prop where
  c2 : b 2 = true → b 0 = true
  c5 : b 5 = true → b 2 = true
  c8 : b 8 = true → b 6 = true
  c11 : b 11 = true → b 8 = true
  a0 : b 0 = false → f 0 = ⟨53, 5, .slice none 0 0, 0, []⟩
  a1 : b 0 = true → b 2 = false → f 0 = ⟨53, 5, x40, 0, []⟩
  a3 : b 2 = true → b 5 = false → f 0 = ⟨53, 5, x42, l.length, (partCells l)⟩
  a6 : b 5 = true → f 0 = ⟨53, 5, x45, (l.length + 1), (partCells l ++ mcL s0 s1 s2)⟩
  x0 : b 4 = false → f 1 = ⟨53, 5, .slice none 0 0, 0, []⟩
  x5 : b 4 = true → f 1 = ⟨53, 5, x44, 1, (mcL s0 s1 s2)⟩
  b0 : b 6 = false → f 2 = ⟨3, 1, .slice none 0 0, 0, []⟩
  b7 : b 6 = true → b 8 = false → f 2 = ⟨3, 1, x46, 0, []⟩
  b9 : b 8 = true → b 11 = false → f 2 = ⟨3, 1, x48, ps.length, (ps.map (Value.int .i64))⟩
  b12 : b 11 = true → f 2 = ⟨3, 1, x51, (ps.length + 1), (ps.map (Value.int .i64) ++ [.int .i64 z])⟩
  y0 : b 10 = false → f 3 = ⟨3, 1, .slice none 0 0, 0, []⟩
  y11 : b 10 = true → f 3 = ⟨3, 1, x50, 1, [.int .i64 z]⟩
  p1 : b 1 = true → x41 = .slice o l.length cap
  p3 : b 3 = true → x43 = mcV s0 s1 s2
  p7 : b 7 = true → x47 = .slice po ps.length pc
  p9 : b 9 = true → x49 = .int .i64 z
  p12 : b 12 = true → x52 = r2
  p13 : b 13 = true → x39 = r2
  p14 : b 14 = true → x53 = r0
  p15 : b 15 = true → x54 = r1
  p16 : b 16 = true → x14 = r0
  p17 : b 17 = true → x15 = r1
structure PF10 (o : Option Addr) (cap : Nat) (l : List MPart) (po : Option Addr) (pc : Nat) (ps : List Int) (s0 s1 s2 : Bs) (r0 r1 r2 : Value) (b : Nat → Bool) (f : Nat → Own) (x16 x17 x55 x56 x57 x58 x59 x60 x61 x62 x63 x64 x65 : Value) : Prop where
  c2 : b 2 = true → b 0 = true
  c5 : b 5 = true → b 2 = true
  a0 : b 0 = false → f 0 = ⟨53, 5, .slice none 0 0, 0, []⟩
  a1 : b 0 = true → b 2 = false → f 0 = ⟨53, 5, x56, 0, []⟩
  a3 : b 2 = true → b 5 = false → f 0 = ⟨53, 5, x58, l.length, (partCells l)⟩
  a6 : b 5 = true → f 0 = ⟨53, 5, x61, (l.length + 1), (partCells l ++ mcL s0 s1 s2)⟩
  x0 : b 4 = false → f 1 = ⟨53, 5, .slice none 0 0, 0, []⟩
  x5 : b 4 = true → f 1 = ⟨53, 5, x60, 1, (mcL s0 s1 s2)⟩
  p1 : b 1 = true → x57 = .slice o l.length cap
  p3 : b 3 = true → x59 = mcV s0 s1 s2
  p6 : b 6 = true → x62 = .slice po ps.length pc
  p7 : b 7 = true → x63 = r2
  p8 : b 8 = true → x55 = r2
  p9 : b 9 = true → x64 = r0
  p10 : b 10 = true → x65 = r1
  p11 : b 11 = true → x16 = r0
  p12 : b 12 = true → x17 = r1
set_option maxHeartbeats 8000000 in
set_option maxRecDepth 1000000 in
theorem markPicks_any (o : Option Addr) (cap : Nat) (l : List MPart) (po : Option Addr) (pc : Nat) (ps : List Int) (x : MPart) (k : Int) (w : World) (h : MkT w) (hl : l.length ≤ cap) (hc : cap ≤ maxLen) (hin : PartsIn w o l) (hs : ∀ x ∈ l, Lens 1048576 x) (hno : o = none → cap = 0) (hpl : ps.length ≤ pc) (hpc : pc ≤ maxLen) (hpi : IntsIn w po ps) (hnp : po = none → pc = 0) (hx : Lens 1048576 x) :
    Calls Tryd.prog 12 #[.slice o l.length cap, .slice po ps.length pc, .agg #[.bool x.hunk, .string (st x.text), .string (st x.s0), .string (st x.s1), .string (st x.s2)], .int .i64 k] w fun e w' => e = .returned (.bool true) ∧ Below w.heap.size w w' := by
  obtain ⟨xh, xt, s0, s1, s2⟩ := x
  obtain ⟨x0, x1, x2, x3⟩ := hx
  simp only at x0 x1 x2 x3 ⊢
  have HT := hq h
  have HIN := hq hin
  have HPI := hq hpi
  have HS := hq hs
  have HNO := hq hno
  have HNP := hq hnp
  clear h hin hpi hs hno hnp
  have HX0 := hq (Whole.made w 53 #[.bool xh, .string (st xt), .string (st s0), .string (st s1), .string (st s2)])
  have HB0 := hq (below_alloc w (.cells #[.bool xh, .string (st xt), .string (st s0), .string (st s1), .string (st s2)] 53))
  obtain ⟨i0, hi, hz0, hz1, hz2⟩ := info_parts infoPart
  obtain ⟨j0, hj, hy0, hy1, hy2⟩ := info_parts infoInt
  go_enter Tryd.func12, Tryd.ntmps12
  go_wp2_with fail
  generalize hg : w.heap.size = g at HX0
  generalize w.alloc (.cells #[.bool xh, .string (st xt), .string (st s0), .string (st s1), .string (st s2)] 53) = w0 at *
  have HG := hq hg
  clear hg
  refine (msmall_any w0 (HT.o.grow HB0.o)).mono ?_
  rintro e w1 ⟨rfl, hb1⟩
  have HB1 := hq (below_trans HB0.o hb1)
  have HX1 := hq (HX0.o.grow hb1)
  clear hb1 HX0 HB0
  go_wp2_with fail
  refine (mfew_any o cap l w1 hl hc (HIN.o.grow HB1.o) (fun x hx => lens_mono (by decide) (HS.o x hx))).mono ?_
  rintro e w2 ⟨rfl, hb2⟩
  have HB2 := hq (below_trans HB1.o hb2)
  have HX2 := hq (HX1.o.grow hb2)
  clear hb2 HX1 HB1
  have HPI2 : Hq (∀ W, Below w.heap.size w W → IntsIn W po ps) := hq (fun W hW i hi => by
    obtain ⟨b, f, h1, h2⟩ := HPI.o i hi
    exact ⟨b, f, h1, (hW.cell (cell_lt h2)).trans h2⟩)
  go_wp2_with fail
  refine (pick_any o cap l po pc ps w2 hl hc (HIN.o.grow HB2.o) (fun x hx => lens_mono (by decide) (HS.o x hx)) hpl hpc (HPI2.o _ HB2.o)).mono ?_
  rintro e w3 ⟨rfl, hb3⟩
  have HB3 := hq (below_trans HB2.o hb3)
  have HX3 := hq (HX2.o.grow hb3)
  clear hb3 HX2 HB2 HPI
  cases hF : fewM l with
  | false =>
    go_wp2_with fail
    all_goals
      go_ret
      exact ⟨rfl, HB3.o⟩
  | true =>
    obtain ⟨h60, hln⟩ := few_in hF
    have HLN := hq hln
    clear hF hln
    cases hR : pickB l ps with
    | none =>
      simp only [Option.getD_none, Option.isSome_none, Bool.false_eq_true, if_false]
      clear hR
      go_wp2_with fail
      go_ret
      exact ⟨rfl, HB3.o⟩
    | some S =>
      simp only [Option.getD_some, Option.isSome_some, if_true]
      have HPN : Hq (ps.length ≤ 60) := hq (by
        have h1 := hR
        unfold pickB at h1
        rw [if_pos (pick_right hR)] at h1
        have := pickGo_nH h1
        have := nH_le l
        omega)
      have hsl : S.length ≤ 61440 := by
        have h1 := hR
        unfold pickB at h1
        rw [if_pos (pick_right hR)] at h1
        have := pickGo_le 1024 l ps S HLN.o h1
        omega
      have hpn60 := HPN.o
      have HLM : Hq (∀ x ∈ l ++ [moreM ⟨true, [], s0, s1, s2⟩], Lens 268435456 x) := hq (fun x hx => by
        rcases List.mem_append.1 hx with hx | hx
        · exact lens_mono (by decide) (HLN.o x hx)
        · rw [List.mem_singleton] at hx
          subst hx
          exact ⟨Nat.zero_le _, by show s0.length ≤ _; omega, by show s1.length ≤ _; omega, by show s2.length ≤ _; omega⟩)
      have hm : 0 ≤ k % 1024 := by omega
      obtain ⟨m, hm⟩ : ∃ m : Nat, k % 1024 = (m : Int) := ⟨(k % 1024).toNat, by omega⟩
      have e3 : bits BinOp.and IntKind.i64 k 1023 = (m : Int) := (i64_and1023 k).trans hm
      obtain ⟨z, hz⟩ : ∃ z : Nat, z = m % 3 := ⟨_, rfl⟩
      have e4 : (m : Int) % 3 = (z : Int) := by omega
      have hz3 : z ≤ 2 := by omega
      have HMP := hq (more_pick hR h60 ⟨true, [], s0, s1, s2⟩ (i := (z : Int)) (by omega))
      have HMN := hq (more_none hR ⟨true, [], s0, s1, s2⟩)
      have HZC : Hq (∀ W, Whole W g 53 #[.bool true, .string (st []), .string (st s0), .string (st s1), .string (st s2)] → W.cell? ⟨g, 2 + z, none⟩ = some (.string (st (sideM ⟨true, [], s0, s1, s2⟩ (z : Int))))) := hq (fun W hW => by
        have hz : z = 0 ∨ z = 1 ∨ z = 2 := by omega
        rcases hz with rfl | rfl | rfl
        · exact hW.at_ 2
        · exact hW.at_ 3
        · exact hW.at_ 4)
      have y0 := HX3.o.at_ 0
      have y1 := HX3.o.at_ 1
      have y2 := HX3.o.free 0
      have y3 := HX3.o.free 1
      have HX5 : Hq (Whole ((w3.setCell ⟨g, 0, none⟩ (.bool true)).setCell ⟨g, 1, none⟩ (.string ⟨#[]⟩)) g 53 #[.bool true, .string (st []), .string (st s0), .string (st s1), .string (st s2)]) := hq ((HX3.o.put 0 (.bool true)).put 1 (.string ⟨#[]⟩))
      have HB5 := hq (below_set (i := 1) (below_set (i := 0) HB3.o (Nat.le_of_eq HG.o) (.bool true)) (Nat.le_of_eq HG.o) (.string ⟨#[]⟩))
      clear hR hm hz HX3 HB3
      go_upto_region 8 with fail
      generalize (w3.setCell ⟨g, 0, none⟩ (.bool true)).setCell ⟨g, 1, none⟩ (.string ⟨#[]⟩) = w5 at *
      clear y0 y1 y2 y3
      go_upto_region 9 with fail
      rw [e4]
      clear e3 e4
      refine region_inv (by kernel_rfl) (fun b a W => ∃ (f : Nat → Own) (x14 x15 x39 x40 x41 x42 x43 x44 x45 x46 x47 x48 x49 x50 x51 x52 x53 x54 : Value), a = ⟨#[.slice o l.length cap, .slice po ps.length pc, .agg #[.bool xh, .string (st xt), .string (st s0), .string (st s1), .string (st s2)], .int .i64 k, undef, undef, .pointer (some ⟨g, 0, none⟩), undef, .bool false, .bool true, .bool true, .string (st S), .int .i64 0, .int .i64 (z : Int), x14, x15, undef, undef, .bool true, .slice o l.length cap, .bool true, .tuple #[.string (st S), .int .i64 0], .slice o l.length cap, .slice po ps.length pc, .tuple #[.string (st S), .int .i64 0], .string (st S), .int .i64 0, .bool true, .bool false, .bool false, .int .i64 0, .bool false, .bool false, undef, .pointer (some ⟨g, 0, none⟩), .pointer (some ⟨g, 1, none⟩), .int .i64 k, .int .i64 (m : Int), .int .i64 (z : Int), x39, x40, x41, x42, x43, x44, x45, x46, x47, x48, x49, x50, x51, x52, x53, x54, undef, undef, undef, undef, undef, undef, undef, undef, undef, undef, undef, undef, undef, undef, undef, undef, undef, undef, undef, undef, undef, undef, undef, undef, undef, undef, undef, undef, undef, undef], []⟩ ∧ Owns w5 W f ∧ PF9 o cap l po pc ps (z : Int) s0 s1 s2 (.string (st (S ++ sideM ⟨true, [], s0, s1, s2⟩ (z : Int)))) (.int .i64 0) (.tuple #[.string (st (S ++ sideM ⟨true, [], s0, s1, s2⟩ (z : Int))), .int .i64 0]) b f x14 x15 x39 x40 x41 x42 x43 x44 x45 x46 x47 x48 x49 x50 x51 x52 x53 x54) ?_ ?_ ?_
      · exact ⟨fun k => if k < 2 then noOwn 53 5 else noOwn 3 1, undef, undef, undef, undef, undef, undef, undef, undef, undef, undef, undef, undef, undef, undef, undef, undef, undef, undef, rfl, Owns.start ((Below.refl _ _).drew) (fun k => by first | exact ⟨rfl, rfl, rfl⟩ | (by_cases hk : k < 2 <;> simp [hk, noOwn])), ⟨(fun h => by cases h), (fun h => by cases h), (fun h => by cases h), (fun h => by cases h), (fun _ => rfl), (fun h _ => by cases h), (fun h _ => by cases h), (fun h => by cases h), (fun _ => rfl), (fun h => by cases h), (fun _ => rfl), (fun h _ => by cases h), (fun h _ => by cases h), (fun h => by cases h), (fun _ => rfl), (fun h => by cases h), (fun h => by cases h), (fun h => by cases h), (fun h => by cases h), (fun h => by cases h), (fun h => by cases h), (fun h => by cases h), (fun h => by cases h), (fun h => by cases h), (fun h => by cases h), (fun h => by cases h)⟩⟩
      · rintro b a W i o' ho hb hd ⟨f, x14, x15, x39, x40, x41, x42, x43, x44, x45, x46, x47, x48, x49, x50, x51, x52, x53, x54, rfl, hO, hP⟩
        have hi18 : i < 18 := (Array.getElem?_eq_some_iff.1 ho).1
        have hi19 : i = 0 ∨ i = 1 ∨ i = 2 ∨ i = 3 ∨ i = 4 ∨ i = 5 ∨ i = 6 ∨ i = 7 ∨ i = 8 ∨ i = 9 ∨ i = 10 ∨ i = 11 ∨ i = 12 ∨ i = 13 ∨ i = 14 ∨ i = 15 ∨ i = 16 ∨ i = 17 := by omega
        clear hi18
        rcases hi19 with rfl | rfl | rfl | rfl | rfl | rfl | rfl | rfl | rfl | rfl | rfl | rfl | rfl | rfl | rfl | rfl | rfl | rfl
        · have ho2 := ho
          simp only [List.getElem?_toArray, List.getElem?_cons_zero] at ho2
          refine wpOp_step ho (fun K hK => ?_)
          obtain rfl := Option.some.inj ho2
          clear ho2 ho
          rw [if_pos (by rfl)]
          go_simp
          exact hK _ _ ⟨updO f 0 ⟨53, 5, .slice (some ⟨W.heap.size, 0, none⟩) 0 0, 0, []⟩, x14, x15, x39, _, x41, x42, x43, x44, x45, x46, x47, x48, x49, x50, x51, x52, x53, x54, rfl, hO.new 0 rfl rfl (by decide), ⟨(fun _ => rfl), (hP.c5), (hP.c8), (hP.c11), (fun h => tf (show true = true from rfl) h), (fun _ _ => rfl), (fun h _ => tf (hP.c2 h) hb), (fun h => tf (hP.c2 (hP.c5 h)) hb), (hP.x0), (hP.x5), (hP.b0), (hP.b7), (hP.b9), (hP.b12), (hP.y0), (hP.y11), (hP.p1), (hP.p3), (hP.p7), (hP.p9), (hP.p12), (hP.p13), (hP.p14), (hP.p15), (hP.p16), (hP.p17)⟩⟩
        · have ho2 := ho
          simp only [List.getElem?_toArray, List.getElem?_cons_zero, List.getElem?_cons_succ] at ho2
          refine wpOp_step ho (fun K hK => ?_)
          obtain rfl := Option.some.inj ho2
          clear ho2 ho
          rw [if_pos (by rfl)]
          go_simp
          exact hK _ _ ⟨f, x14, x15, x39, x40, _, x42, x43, x44, x45, x46, x47, x48, x49, x50, x51, x52, x53, x54, rfl, hO, ⟨(hP.c2), (hP.c5), (hP.c8), (hP.c11), (hP.a0), (hP.a1), (hP.a3), (hP.a6), (hP.x0), (hP.x5), (hP.b0), (hP.b7), (hP.b9), (hP.b12), (hP.y0), (hP.y11), (fun _ => rfl), (hP.p3), (hP.p7), (hP.p9), (hP.p12), (hP.p13), (hP.p14), (hP.p15), (hP.p16), (hP.p17)⟩⟩
        · have ho2 := ho
          simp only [List.getElem?_toArray, List.getElem?_cons_zero, List.getElem?_cons_succ] at ho2
          refine wpOp_step ho (fun K hK => ?_)
          obtain rfl := Option.some.inj ho2
          clear ho2 ho
          have d0 : b 0 = true := depB hd (by kernel_rfl)
          have d1 : b 1 = true := depB hd (by kernel_rfl)
          rw [if_pos (by rfl)]
          have e0 := hP.a1 d0 hb
          have h0 := hO.own 0
          rw [e0] at h0
          obtain rfl := hP.p1 d1
          refine wp_append_src W (.tmp 40) (.tmp 41) 41 rfl w5.heap.size 53 i0 (.agg #[.bool false, .string ⟨#[]⟩, .string ⟨#[]⟩, .string ⟨#[]⟩, .string ⟨#[]⟩]) 5 72 Tryd.underlying41 hi hz0 hz1 hz2 rfl (by decide) x40 0 [] rfl h0 o l.length cap (partCells l) rfl HNO.o hl (partCells_len l) (parts_cells (HIN.o.grow (below_trans HB5.o hO.bel))) (partCells_one l) (by unfold maxLen; omega) (by omega) hO.bel.size ?_
          intro v' W' h2 h3 h4
          try simp only [Nat.zero_add, List.nil_append] at h2
          have hA := hO.app 0 (by rw [e0]; exact h2) (by rw [e0]; exact h3) (by rw [e0]; exact h4)
          rw [e0] at hA
          exact hK _ _ ⟨updO f 0 ⟨53, 5, v', l.length, (partCells l)⟩, x14, x15, x39, x40, _, v', x43, x44, x45, x46, x47, x48, x49, x50, x51, x52, x53, x54, rfl, hA, ⟨(fun _ => d0), (fun _ => rfl), (hP.c8), (hP.c11), (fun h => tf d0 h), (fun _ h => tf (show true = true from rfl) h), (fun _ _ => rfl), (fun h => tf (hP.c5 h) hb), (hP.x0), (hP.x5), (hP.b0), (hP.b7), (hP.b9), (hP.b12), (hP.y0), (hP.y11), (hP.p1), (hP.p3), (hP.p7), (hP.p9), (hP.p12), (hP.p13), (hP.p14), (hP.p15), (hP.p16), (hP.p17)⟩⟩
        · have ho2 := ho
          simp only [List.getElem?_toArray, List.getElem?_cons_zero, List.getElem?_cons_succ] at ho2
          refine wpOp_step ho (fun K hK => ?_)
          obtain rfl := Option.some.inj ho2
          clear ho2 ho
          rw [if_pos (by rfl)]
          have hx := HX5.o.kept hO.bel HX5.o.lt
          have y0 := hx.at_ 0
          have y1 := hx.at_ 1
          have y2 := hx.at_ 2
          have y3 := hx.at_ 3
          have y4 := hx.at_ 4
          go_simp
          exact hK _ _ ⟨f, x14, x15, x39, x40, x41, x42, _, x44, x45, x46, x47, x48, x49, x50, x51, x52, x53, x54, rfl, hO, ⟨(hP.c2), (hP.c5), (hP.c8), (hP.c11), (hP.a0), (hP.a1), (hP.a3), (hP.a6), (hP.x0), (hP.x5), (hP.b0), (hP.b7), (hP.b9), (hP.b12), (hP.y0), (hP.y11), (hP.p1), (fun _ => rfl), (hP.p7), (hP.p9), (hP.p12), (hP.p13), (hP.p14), (hP.p15), (hP.p16), (hP.p17)⟩⟩
        · have ho2 := ho
          simp only [List.getElem?_toArray, List.getElem?_cons_zero, List.getElem?_cons_succ] at ho2
          refine wpOp_step ho (fun K hK => ?_)
          obtain rfl := Option.some.inj ho2
          clear ho2 ho
          have d3 : b 3 = true := depB hd (by kernel_rfl)
          rw [if_pos (by rfl)]
          obtain rfl := hP.p3 d3
          unfold mcV
          go_simp
          exact hK _ _ ⟨updO f 1 ⟨53, 5, .slice (some ⟨W.heap.size, 0, none⟩) 1 1, 1, (mcL s0 s1 s2)⟩, x14, x15, x39, x40, x41, x42, _, _, x45, x46, x47, x48, x49, x50, x51, x52, x53, x54, rfl, hO.new 1 rfl rfl (by decide), ⟨(hP.c2), (hP.c5), (hP.c8), (hP.c11), (hP.a0), (hP.a1), (hP.a3), (hP.a6), (fun h => tf (show true = true from rfl) h), (fun _ => rfl), (hP.b0), (hP.b7), (hP.b9), (hP.b12), (hP.y0), (hP.y11), (hP.p1), (hP.p3), (hP.p7), (hP.p9), (hP.p12), (hP.p13), (hP.p14), (hP.p15), (hP.p16), (hP.p17)⟩⟩
        · have ho2 := ho
          simp only [List.getElem?_toArray, List.getElem?_cons_zero, List.getElem?_cons_succ] at ho2
          refine wpOp_step ho (fun K hK => ?_)
          obtain rfl := Option.some.inj ho2
          clear ho2 ho
          have d2 : b 2 = true := depB hd (by kernel_rfl)
          have d4 : b 4 = true := depB hd (by kernel_rfl)
          rw [if_pos (by rfl)]
          have e0 := hP.a3 d2 hb
          have h0 := hO.own 0
          rw [e0] at h0
          have h1 := hO.own 1
          rw [hP.x5 d4] at h1
          obtain ⟨gx, cx, hvx, hcx, hclx⟩ := own_form h1 Nat.zero_lt_one
          refine wp_append_src W (.tmp 42) (.tmp 44) 41 rfl w5.heap.size 53 i0 (.agg #[.bool false, .string ⟨#[]⟩, .string ⟨#[]⟩, .string ⟨#[]⟩, .string ⟨#[]⟩]) 5 72 Tryd.underlying41 hi hz0 hz1 hz2 rfl (by decide) x42 l.length (partCells l) rfl h0 (some ⟨gx, 0, none⟩) 1 cx (mcL s0 s1 s2) hvx (fun h => by cases h) hcx rfl hclx (by first | exact part_one _ _ _ _ _ | exact all_ints [_]) (by unfold maxLen; omega) (by omega) hO.bel.size ?_
          intro v' W' h2 h3 h4
          try simp only [Nat.zero_add, List.nil_append] at h2
          have hA := hO.app 0 (by rw [e0]; exact h2) (by rw [e0]; exact h3) (by rw [e0]; exact h4)
          rw [e0] at hA
          exact hK _ _ ⟨updO f 0 ⟨53, 5, v', (l.length + 1), (partCells l ++ mcL s0 s1 s2)⟩, x14, x15, x39, x40, x41, x42, x43, x44, v', x46, x47, x48, x49, x50, x51, x52, x53, x54, rfl, hA, ⟨(hP.c2), (fun _ => d2), (hP.c8), (hP.c11), (fun h => tf (hP.c2 d2) h), (fun _ h => tf d2 h), (fun _ h => tf (show true = true from rfl) h), (fun _ => rfl), (hP.x0), (hP.x5), (hP.b0), (hP.b7), (hP.b9), (hP.b12), (hP.y0), (hP.y11), (hP.p1), (hP.p3), (hP.p7), (hP.p9), (hP.p12), (hP.p13), (hP.p14), (hP.p15), (hP.p16), (hP.p17)⟩⟩
        · have ho2 := ho
          simp only [List.getElem?_toArray, List.getElem?_cons_zero, List.getElem?_cons_succ] at ho2
          refine wpOp_step ho (fun K hK => ?_)
          obtain rfl := Option.some.inj ho2
          clear ho2 ho
          rw [if_pos (by rfl)]
          go_simp
          exact hK _ _ ⟨updO f 2 ⟨3, 1, .slice (some ⟨W.heap.size, 0, none⟩) 0 0, 0, []⟩, x14, x15, x39, x40, x41, x42, x43, x44, x45, _, x47, x48, x49, x50, x51, x52, x53, x54, rfl, hO.new 2 rfl rfl (by decide), ⟨(hP.c2), (hP.c5), (fun _ => rfl), (hP.c11), (hP.a0), (hP.a1), (hP.a3), (hP.a6), (hP.x0), (hP.x5), (fun h => tf (show true = true from rfl) h), (fun _ _ => rfl), (fun h _ => tf (hP.c8 h) hb), (fun h => tf (hP.c8 (hP.c11 h)) hb), (hP.y0), (hP.y11), (hP.p1), (hP.p3), (hP.p7), (hP.p9), (hP.p12), (hP.p13), (hP.p14), (hP.p15), (hP.p16), (hP.p17)⟩⟩
        · have ho2 := ho
          simp only [List.getElem?_toArray, List.getElem?_cons_zero, List.getElem?_cons_succ] at ho2
          refine wpOp_step ho (fun K hK => ?_)
          obtain rfl := Option.some.inj ho2
          clear ho2 ho
          rw [if_pos (by rfl)]
          go_simp
          exact hK _ _ ⟨f, x14, x15, x39, x40, x41, x42, x43, x44, x45, x46, _, x48, x49, x50, x51, x52, x53, x54, rfl, hO, ⟨(hP.c2), (hP.c5), (hP.c8), (hP.c11), (hP.a0), (hP.a1), (hP.a3), (hP.a6), (hP.x0), (hP.x5), (hP.b0), (hP.b7), (hP.b9), (hP.b12), (hP.y0), (hP.y11), (hP.p1), (hP.p3), (fun _ => rfl), (hP.p9), (hP.p12), (hP.p13), (hP.p14), (hP.p15), (hP.p16), (hP.p17)⟩⟩
        · have ho2 := ho
          simp only [List.getElem?_toArray, List.getElem?_cons_zero, List.getElem?_cons_succ] at ho2
          refine wpOp_step ho (fun K hK => ?_)
          obtain rfl := Option.some.inj ho2
          clear ho2 ho
          have d5 : b 5 = true := depB hd (by kernel_rfl)
          have d6 : b 6 = true := depB hd (by kernel_rfl)
          have d7 : b 7 = true := depB hd (by kernel_rfl)
          rw [if_pos (by rfl)]
          have e0 := hP.b7 d6 hb
          have h0 := hO.own 2
          rw [e0] at h0
          obtain rfl := hP.p7 d7
          refine wp_append_src W (.tmp 46) (.tmp 47) 42 rfl w5.heap.size 3 j0 (.int .i64 0) 1 8 Tryd.underlying42 hj hy0 hy1 hy2 rfl (by decide) x46 0 [] rfl h0 po ps.length pc (ps.map (Value.int .i64)) rfl HNP.o hpl (by simp) (ints_cells (HPI2.o W (below_trans HB5.o hO.bel))) (all_ints ps) (by unfold maxLen; omega) (by omega) hO.bel.size ?_
          intro v' W' h2 h3 h4
          try simp only [Nat.zero_add, List.nil_append] at h2
          have hA := hO.app 2 (by rw [e0]; exact h2) (by rw [e0]; exact h3) (by rw [e0]; exact h4)
          rw [e0] at hA
          exact hK _ _ ⟨updO f 2 ⟨3, 1, v', ps.length, (ps.map (Value.int .i64))⟩, x14, x15, x39, x40, x41, x42, x43, x44, x45, x46, _, v', x49, x50, x51, x52, x53, x54, rfl, hA, ⟨(hP.c2), (hP.c5), (fun _ => d6), (fun _ => rfl), (hP.a0), (hP.a1), (hP.a3), (hP.a6), (hP.x0), (hP.x5), (fun h => tf d6 h), (fun _ h => tf (show true = true from rfl) h), (fun _ _ => rfl), (fun h => tf (hP.c11 h) hb), (hP.y0), (hP.y11), (hP.p1), (hP.p3), (hP.p7), (hP.p9), (hP.p12), (hP.p13), (hP.p14), (hP.p15), (hP.p16), (hP.p17)⟩⟩
        · have ho2 := ho
          simp only [List.getElem?_toArray, List.getElem?_cons_zero, List.getElem?_cons_succ] at ho2
          refine wpOp_step ho (fun K hK => ?_)
          obtain rfl := Option.some.inj ho2
          clear ho2 ho
          rw [if_pos (by rfl)]
          go_simp
          exact hK _ _ ⟨f, x14, x15, x39, x40, x41, x42, x43, x44, x45, x46, x47, x48, _, x50, x51, x52, x53, x54, rfl, hO, ⟨(hP.c2), (hP.c5), (hP.c8), (hP.c11), (hP.a0), (hP.a1), (hP.a3), (hP.a6), (hP.x0), (hP.x5), (hP.b0), (hP.b7), (hP.b9), (hP.b12), (hP.y0), (hP.y11), (hP.p1), (hP.p3), (hP.p7), (fun _ => rfl), (hP.p12), (hP.p13), (hP.p14), (hP.p15), (hP.p16), (hP.p17)⟩⟩
        · have ho2 := ho
          simp only [List.getElem?_toArray, List.getElem?_cons_zero, List.getElem?_cons_succ] at ho2
          refine wpOp_step ho (fun K hK => ?_)
          obtain rfl := Option.some.inj ho2
          clear ho2 ho
          have d9 : b 9 = true := depB hd (by kernel_rfl)
          rw [if_pos (by rfl)]
          obtain rfl := hP.p9 d9
          go_simp
          exact hK _ _ ⟨updO f 3 ⟨3, 1, .slice (some ⟨W.heap.size, 0, none⟩) 1 1, 1, [.int .i64 (z : Int)]⟩, x14, x15, x39, x40, x41, x42, x43, x44, x45, x46, x47, x48, _, _, x51, x52, x53, x54, rfl, hO.new 3 rfl rfl (by decide), ⟨(hP.c2), (hP.c5), (hP.c8), (hP.c11), (hP.a0), (hP.a1), (hP.a3), (hP.a6), (hP.x0), (hP.x5), (hP.b0), (hP.b7), (hP.b9), (hP.b12), (fun h => tf (show true = true from rfl) h), (fun _ => rfl), (hP.p1), (hP.p3), (hP.p7), (hP.p9), (hP.p12), (hP.p13), (hP.p14), (hP.p15), (hP.p16), (hP.p17)⟩⟩
        · have ho2 := ho
          simp only [List.getElem?_toArray, List.getElem?_cons_zero, List.getElem?_cons_succ] at ho2
          refine wpOp_step ho (fun K hK => ?_)
          obtain rfl := Option.some.inj ho2
          clear ho2 ho
          have d8 : b 8 = true := depB hd (by kernel_rfl)
          have d10 : b 10 = true := depB hd (by kernel_rfl)
          rw [if_pos (by rfl)]
          have e0 := hP.b9 d8 hb
          have h0 := hO.own 2
          rw [e0] at h0
          have h1 := hO.own 3
          rw [hP.y11 d10] at h1
          obtain ⟨gx, cx, hvx, hcx, hclx⟩ := own_form h1 Nat.zero_lt_one
          refine wp_append_src W (.tmp 48) (.tmp 50) 42 rfl w5.heap.size 3 j0 (.int .i64 0) 1 8 Tryd.underlying42 hj hy0 hy1 hy2 rfl (by decide) x48 ps.length (ps.map (Value.int .i64)) rfl h0 (some ⟨gx, 0, none⟩) 1 cx [.int .i64 (z : Int)] hvx (fun h => by cases h) hcx rfl hclx (by first | exact part_one _ _ _ _ _ | exact all_ints [_]) (by unfold maxLen; omega) (by omega) hO.bel.size ?_
          intro v' W' h2 h3 h4
          try simp only [Nat.zero_add, List.nil_append] at h2
          have hA := hO.app 2 (by rw [e0]; exact h2) (by rw [e0]; exact h3) (by rw [e0]; exact h4)
          rw [e0] at hA
          exact hK _ _ ⟨updO f 2 ⟨3, 1, v', (ps.length + 1), (ps.map (Value.int .i64) ++ [.int .i64 (z : Int)])⟩, x14, x15, x39, x40, x41, x42, x43, x44, x45, x46, x47, x48, x49, x50, v', x52, x53, x54, rfl, hA, ⟨(hP.c2), (hP.c5), (hP.c8), (fun _ => d8), (hP.a0), (hP.a1), (hP.a3), (hP.a6), (hP.x0), (hP.x5), (fun h => tf (hP.c8 d8) h), (fun _ h => tf d8 h), (fun _ h => tf (show true = true from rfl) h), (fun _ => rfl), (hP.y0), (hP.y11), (hP.p1), (hP.p3), (hP.p7), (hP.p9), (hP.p12), (hP.p13), (hP.p14), (hP.p15), (hP.p16), (hP.p17)⟩⟩
        · have ho2 := ho
          simp only [List.getElem?_toArray, List.getElem?_cons_zero, List.getElem?_cons_succ] at ho2
          refine wpOp_step ho (fun K hK => ?_)
          obtain rfl := Option.some.inj ho2
          clear ho2 ho
          have d5 : b 5 = true := depB hd (by kernel_rfl)
          have d11 : b 11 = true := depB hd (by kernel_rfl)
          rw [if_pos (by rfl)]
          have h0 := hO.own 0
          rw [hP.a6 d5] at h0
          have hr : PRow W w5.heap.size x45 (l ++ [moreM ⟨true, [], s0, s1, s2⟩]) := by unfold PRow; rw [partCells_snoc, List.length_append]; exact h0
          obtain ⟨o1, c1, hv1, hl1, hc1, hin1⟩ := prow_in hr
          rw [List.length_append, List.length_singleton] at hv1
          subst hv1
          have h2 := hO.own 2
          rw [hP.b12 d11] at h2
          have hr2 : W.ownsRow w5.heap.size 3 1 x51 (ps ++ [(z : Int)]).length ((ps ++ [(z : Int)]).map (Value.int .i64)) := by rw [List.map_append, List.length_append]; exact h2
          obtain ⟨o2, c2, hv2, hl2, hc2, hin2⟩ := irow_in hr2
          rw [List.length_append, List.length_singleton] at hv2
          subst hv2
          have hpk := pick_any o1 c1 (l ++ [moreM ⟨true, [], s0, s1, s2⟩]) o2 c2 (ps ++ [(z : Int)]) W hl1 hc1 hin1 HLM.o hl2 hc2 hin2
          unfold PickPost at hpk
          rw [HMP.o] at hpk
          simp only [Option.getD_some, Option.isSome_some, if_true] at hpk
          simp only [List.length_append, List.length_singleton] at hpk
          have HPK := hq hpk
          have HK := hq hK
          clear hpk h0 hr hK
          go_simp
          refine HPK.o.mono ?_
          rintro e W' ⟨rfl, hb'⟩
          go_wp2_with fail
          exact HK.o _ _ ⟨f, x14, x15, x39, x40, x41, x42, x43, x44, _, x46, x47, x48, x49, x50, _, _, x53, x54, rfl, hO.grow hb', ⟨(hP.c2), (hP.c5), (hP.c8), (hP.c11), (hP.a0), (hP.a1), (hP.a3), (hP.a6), (hP.x0), (hP.x5), (hP.b0), (hP.b7), (hP.b9), (hP.b12), (hP.y0), (hP.y11), (hP.p1), (hP.p3), (hP.p7), (hP.p9), (fun _ => rfl), (hP.p13), (hP.p14), (hP.p15), (hP.p16), (hP.p17)⟩⟩
        · have ho2 := ho
          simp only [List.getElem?_toArray, List.getElem?_cons_zero, List.getElem?_cons_succ] at ho2
          refine wpOp_step ho (fun K hK => ?_)
          obtain rfl := Option.some.inj ho2
          clear ho2 ho
          have d12 : b 12 = true := depB hd (by kernel_rfl)
          rw [if_pos (by rfl)]
          obtain rfl := hP.p12 d12
          go_simp
          exact hK _ _ ⟨f, x14, x15, _, x40, x41, x42, x43, x44, x45, x46, x47, x48, x49, x50, x51, _, x53, x54, rfl, hO, ⟨(hP.c2), (hP.c5), (hP.c8), (hP.c11), (hP.a0), (hP.a1), (hP.a3), (hP.a6), (hP.x0), (hP.x5), (hP.b0), (hP.b7), (hP.b9), (hP.b12), (hP.y0), (hP.y11), (hP.p1), (hP.p3), (hP.p7), (hP.p9), (hP.p12), (fun _ => rfl), (hP.p14), (hP.p15), (hP.p16), (hP.p17)⟩⟩
        · have ho2 := ho
          simp only [List.getElem?_toArray, List.getElem?_cons_zero, List.getElem?_cons_succ] at ho2
          refine wpOp_step ho (fun K hK => ?_)
          obtain rfl := Option.some.inj ho2
          clear ho2 ho
          have d13 : b 13 = true := depB hd (by kernel_rfl)
          rw [if_pos (by rfl)]
          obtain rfl := hP.p13 d13
          go_simp
          exact hK _ _ ⟨f, x14, x15, _, x40, x41, x42, x43, x44, x45, x46, x47, x48, x49, x50, x51, x52, _, x54, rfl, hO, ⟨(hP.c2), (hP.c5), (hP.c8), (hP.c11), (hP.a0), (hP.a1), (hP.a3), (hP.a6), (hP.x0), (hP.x5), (hP.b0), (hP.b7), (hP.b9), (hP.b12), (hP.y0), (hP.y11), (hP.p1), (hP.p3), (hP.p7), (hP.p9), (hP.p12), (hP.p13), (fun _ => rfl), (hP.p15), (hP.p16), (hP.p17)⟩⟩
        · have ho2 := ho
          simp only [List.getElem?_toArray, List.getElem?_cons_zero, List.getElem?_cons_succ] at ho2
          refine wpOp_step ho (fun K hK => ?_)
          obtain rfl := Option.some.inj ho2
          clear ho2 ho
          have d13 : b 13 = true := depB hd (by kernel_rfl)
          rw [if_pos (by rfl)]
          obtain rfl := hP.p13 d13
          go_simp
          exact hK _ _ ⟨f, x14, x15, _, x40, x41, x42, x43, x44, x45, x46, x47, x48, x49, x50, x51, x52, x53, _, rfl, hO, ⟨(hP.c2), (hP.c5), (hP.c8), (hP.c11), (hP.a0), (hP.a1), (hP.a3), (hP.a6), (hP.x0), (hP.x5), (hP.b0), (hP.b7), (hP.b9), (hP.b12), (hP.y0), (hP.y11), (hP.p1), (hP.p3), (hP.p7), (hP.p9), (hP.p12), (hP.p13), (hP.p14), (fun _ => rfl), (hP.p16), (hP.p17)⟩⟩
        · have ho2 := ho
          simp only [List.getElem?_toArray, List.getElem?_cons_zero, List.getElem?_cons_succ] at ho2
          refine wpOp_step ho (fun K hK => ?_)
          obtain rfl := Option.some.inj ho2
          clear ho2 ho
          have d0 : b 0 = true := depB hd (by kernel_rfl)
          have d1 : b 1 = true := depB hd (by kernel_rfl)
          have d2 : b 2 = true := depB hd (by kernel_rfl)
          have d3 : b 3 = true := depB hd (by kernel_rfl)
          have d4 : b 4 = true := depB hd (by kernel_rfl)
          have d5 : b 5 = true := depB hd (by kernel_rfl)
          have d6 : b 6 = true := depB hd (by kernel_rfl)
          have d7 : b 7 = true := depB hd (by kernel_rfl)
          have d8 : b 8 = true := depB hd (by kernel_rfl)
          have d9 : b 9 = true := depB hd (by kernel_rfl)
          have d10 : b 10 = true := depB hd (by kernel_rfl)
          have d11 : b 11 = true := depB hd (by kernel_rfl)
          have d12 : b 12 = true := depB hd (by kernel_rfl)
          have d13 : b 13 = true := depB hd (by kernel_rfl)
          have d14 : b 14 = true := depB hd (by kernel_rfl)
          rw [if_pos (by rfl)]
          obtain rfl := hP.p14 d14
          go_simp
          exact hK _ _ ⟨f, _, x15, x39, x40, x41, x42, x43, x44, x45, x46, x47, x48, x49, x50, x51, x52, _, x54, rfl, hO, ⟨(hP.c2), (hP.c5), (hP.c8), (hP.c11), (hP.a0), (hP.a1), (hP.a3), (hP.a6), (hP.x0), (hP.x5), (hP.b0), (hP.b7), (hP.b9), (hP.b12), (hP.y0), (hP.y11), (hP.p1), (hP.p3), (hP.p7), (hP.p9), (hP.p12), (hP.p13), (hP.p14), (hP.p15), (fun _ => rfl), (hP.p17)⟩⟩
        · have ho2 := ho
          simp only [List.getElem?_toArray, List.getElem?_cons_zero, List.getElem?_cons_succ] at ho2
          refine wpOp_step ho (fun K hK => ?_)
          obtain rfl := Option.some.inj ho2
          clear ho2 ho
          have d15 : b 15 = true := depB hd (by kernel_rfl)
          have d16 : b 16 = true := depB hd (by kernel_rfl)
          rw [if_pos (by rfl)]
          obtain rfl := hP.p15 d15
          go_simp
          exact hK _ _ ⟨f, x14, _, x39, x40, x41, x42, x43, x44, x45, x46, x47, x48, x49, x50, x51, x52, x53, _, rfl, hO, ⟨(hP.c2), (hP.c5), (hP.c8), (hP.c11), (hP.a0), (hP.a1), (hP.a3), (hP.a6), (hP.x0), (hP.x5), (hP.b0), (hP.b7), (hP.b9), (hP.b12), (hP.y0), (hP.y11), (hP.p1), (hP.p3), (hP.p7), (hP.p9), (hP.p12), (hP.p13), (hP.p14), (hP.p15), (hP.p16), (fun _ => rfl)⟩⟩
      · rintro b a W ⟨f, x14, x15, x39, x40, x41, x42, x43, x44, x45, x46, x47, x48, x49, x50, x51, x52, x53, x54, rfl, hO, hP⟩ hr
        have T0 : ∀ j, j < 0 → b j = true := fun j hj => absurd hj (Nat.not_lt_zero j)
        have t0 : b 0 = true := hr 0 _ rfl (allB (n := 0) (by kernel_rfl) T0)
        have T1 := upS T0 t0
        have t1 : b 1 = true := hr 1 _ rfl (allB (n := 1) (by kernel_rfl) T1)
        have T2 := upS T1 t1
        have t2 : b 2 = true := hr 2 _ rfl (allB (n := 2) (by kernel_rfl) T2)
        have T3 := upS T2 t2
        have t3 : b 3 = true := hr 3 _ rfl (allB (n := 3) (by kernel_rfl) T3)
        have T4 := upS T3 t3
        have t4 : b 4 = true := hr 4 _ rfl (allB (n := 4) (by kernel_rfl) T4)
        have T5 := upS T4 t4
        have t5 : b 5 = true := hr 5 _ rfl (allB (n := 5) (by kernel_rfl) T5)
        have T6 := upS T5 t5
        have t6 : b 6 = true := hr 6 _ rfl (allB (n := 6) (by kernel_rfl) T6)
        have T7 := upS T6 t6
        have t7 : b 7 = true := hr 7 _ rfl (allB (n := 7) (by kernel_rfl) T7)
        have T8 := upS T7 t7
        have t8 : b 8 = true := hr 8 _ rfl (allB (n := 8) (by kernel_rfl) T8)
        have T9 := upS T8 t8
        have t9 : b 9 = true := hr 9 _ rfl (allB (n := 9) (by kernel_rfl) T9)
        have T10 := upS T9 t9
        have t10 : b 10 = true := hr 10 _ rfl (allB (n := 10) (by kernel_rfl) T10)
        have T11 := upS T10 t10
        have t11 : b 11 = true := hr 11 _ rfl (allB (n := 11) (by kernel_rfl) T11)
        have T12 := upS T11 t11
        have t12 : b 12 = true := hr 12 _ rfl (allB (n := 12) (by kernel_rfl) T12)
        have T13 := upS T12 t12
        have t13 : b 13 = true := hr 13 _ rfl (allB (n := 13) (by kernel_rfl) T13)
        have T14 := upS T13 t13
        have t14 : b 14 = true := hr 14 _ rfl (allB (n := 14) (by kernel_rfl) T14)
        have T15 := upS T14 t14
        have t15 : b 15 = true := hr 15 _ rfl (allB (n := 15) (by kernel_rfl) T15)
        have T16 := upS T15 t15
        have t16 : b 16 = true := hr 16 _ rfl (allB (n := 16) (by kernel_rfl) T16)
        have T17 := upS T16 t16
        have t17 : b 17 = true := hr 17 _ rfl (allB (n := 17) (by kernel_rfl) T17)
        have T18 := upS T17 t17
        obtain rfl := hP.p16 t16
        obtain rfl := hP.p17 t17
        obtain rfl := hP.p12 t12
        obtain rfl := hP.p13 t13
        obtain rfl := hP.p14 t14
        obtain rfl := hP.p15 t15
        obtain rfl := hP.p1 t1
        obtain rfl := hP.p3 t3
        obtain rfl := hP.p7 t7
        obtain rfl := hP.p9 t9
        have HB6 := hq (below_trans HB5.o hO.bel)
        have HX6 := hq (HX5.o.kept hO.bel HX5.o.lt)
        clear hO hP hr t0 T0 t1 T1 t2 T2 t3 T3 t4 T4 t5 T5 t6 T6 t7 T7 t8 T8 t9 T9 t10 T10 t11 T11 t12 T12 t13 T13 t14 T14 t15 T15 t16 T16 t17 T17
        generalize W = w6 at *
        unfold mcV
        dsimp only
        go_upto_region 10 with fail
        refine region_inv (by kernel_rfl) (fun b a W => ∃ (f : Nat → Own) (x16 x17 x55 x56 x57 x58 x59 x60 x61 x62 x63 x64 x65 : Value), a = ⟨#[.slice o l.length cap, .slice po ps.length pc, .agg #[.bool xh, .string (st xt), .string (st s0), .string (st s1), .string (st s2)], .int .i64 k, undef, undef, .pointer (some ⟨g, 0, none⟩), undef, .bool false, .bool true, .bool true, .string (st S), .int .i64 0, .int .i64 (z : Int), .string (st (S ++ sideM ⟨true, [], s0, s1, s2⟩ (z : Int))), .int .i64 0, x16, x17, .bool true, .slice o l.length cap, .bool true, .tuple #[.string (st S), .int .i64 0], .slice o l.length cap, .slice po ps.length pc, .tuple #[.string (st S), .int .i64 0], .string (st S), .int .i64 0, .bool true, .bool false, .bool false, .int .i64 0, .bool false, .bool false, undef, .pointer (some ⟨g, 0, none⟩), .pointer (some ⟨g, 1, none⟩), .int .i64 k, .int .i64 (m : Int), .int .i64 (z : Int), .tuple #[.string (st (S ++ sideM ⟨true, [], s0, s1, s2⟩ (z : Int))), .int .i64 0], x40, .slice o l.length cap, x42, .agg #[.bool true, .string (st []), .string (st s0), .string (st s1), .string (st s2)], x44, x45, x46, .slice po ps.length pc, x48, .int .i64 (z : Int), x50, x51, .tuple #[.string (st (S ++ sideM ⟨true, [], s0, s1, s2⟩ (z : Int))), .int .i64 0], .string (st (S ++ sideM ⟨true, [], s0, s1, s2⟩ (z : Int))), .int .i64 0, x55, x56, x57, x58, x59, x60, x61, x62, x63, x64, x65, undef, undef, undef, undef, undef, undef, undef, undef, undef, undef, undef, undef, undef, undef, undef, undef, undef, undef, undef], []⟩ ∧ Owns w6 W f ∧ PF10 o cap l po pc ps s0 s1 s2 (.string ⟨#[]⟩) (.int .i64 1) (.tuple #[.string ⟨#[]⟩, .int .i64 1]) b f x16 x17 x55 x56 x57 x58 x59 x60 x61 x62 x63 x64 x65) ?_ ?_ ?_
        · exact ⟨fun _ => noOwn 53 5, undef, undef, undef, undef, undef, undef, undef, undef, undef, undef, undef, undef, undef, rfl, Owns.start ((Below.refl _ _).drew) (fun k => by first | exact ⟨rfl, rfl, rfl⟩ | (by_cases hk : k < 2 <;> simp [hk, noOwn])), ⟨(fun h => by cases h), (fun h => by cases h), (fun _ => rfl), (fun h _ => by cases h), (fun h _ => by cases h), (fun h => by cases h), (fun _ => rfl), (fun h => by cases h), (fun h => by cases h), (fun h => by cases h), (fun h => by cases h), (fun h => by cases h), (fun h => by cases h), (fun h => by cases h), (fun h => by cases h), (fun h => by cases h), (fun h => by cases h)⟩⟩
        · rintro b a W i o' ho hb hd ⟨f, x16, x17, x55, x56, x57, x58, x59, x60, x61, x62, x63, x64, x65, rfl, hO, hP⟩
          have hi18 : i < 13 := (Array.getElem?_eq_some_iff.1 ho).1
          have hi19 : i = 0 ∨ i = 1 ∨ i = 2 ∨ i = 3 ∨ i = 4 ∨ i = 5 ∨ i = 6 ∨ i = 7 ∨ i = 8 ∨ i = 9 ∨ i = 10 ∨ i = 11 ∨ i = 12 := by omega
          clear hi18
          rcases hi19 with rfl | rfl | rfl | rfl | rfl | rfl | rfl | rfl | rfl | rfl | rfl | rfl | rfl
          · have ho2 := ho
            simp only [List.getElem?_toArray, List.getElem?_cons_zero] at ho2
            refine wpOp_step ho (fun K hK => ?_)
            obtain rfl := Option.some.inj ho2
            clear ho2 ho
            rw [if_pos (by rfl)]
            go_simp
            exact hK _ _ ⟨updO f 0 ⟨53, 5, .slice (some ⟨W.heap.size, 0, none⟩) 0 0, 0, []⟩, x16, x17, x55, _, x57, x58, x59, x60, x61, x62, x63, x64, x65, rfl, hO.new 0 rfl rfl (by decide), ⟨(fun _ => rfl), (hP.c5), (fun h => tf (show true = true from rfl) h), (fun _ _ => rfl), (fun h _ => tf (hP.c2 h) hb), (fun h => tf (hP.c2 (hP.c5 h)) hb), (hP.x0), (hP.x5), (hP.p1), (hP.p3), (hP.p6), (hP.p7), (hP.p8), (hP.p9), (hP.p10), (hP.p11), (hP.p12)⟩⟩
          · have ho2 := ho
            simp only [List.getElem?_toArray, List.getElem?_cons_zero, List.getElem?_cons_succ] at ho2
            refine wpOp_step ho (fun K hK => ?_)
            obtain rfl := Option.some.inj ho2
            clear ho2 ho
            rw [if_pos (by rfl)]
            go_simp
            exact hK _ _ ⟨f, x16, x17, x55, x56, _, x58, x59, x60, x61, x62, x63, x64, x65, rfl, hO, ⟨(hP.c2), (hP.c5), (hP.a0), (hP.a1), (hP.a3), (hP.a6), (hP.x0), (hP.x5), (fun _ => rfl), (hP.p3), (hP.p6), (hP.p7), (hP.p8), (hP.p9), (hP.p10), (hP.p11), (hP.p12)⟩⟩
          · have ho2 := ho
            simp only [List.getElem?_toArray, List.getElem?_cons_zero, List.getElem?_cons_succ] at ho2
            refine wpOp_step ho (fun K hK => ?_)
            obtain rfl := Option.some.inj ho2
            clear ho2 ho
            have d0 : b 0 = true := depB hd (by kernel_rfl)
            have d1 : b 1 = true := depB hd (by kernel_rfl)
            rw [if_pos (by rfl)]
            have e0 := hP.a1 d0 hb
            have h0 := hO.own 0
            rw [e0] at h0
            obtain rfl := hP.p1 d1
            refine wp_append_src W (.tmp 56) (.tmp 57) 41 rfl w6.heap.size 53 i0 (.agg #[.bool false, .string ⟨#[]⟩, .string ⟨#[]⟩, .string ⟨#[]⟩, .string ⟨#[]⟩]) 5 72 Tryd.underlying41 hi hz0 hz1 hz2 rfl (by decide) x56 0 [] rfl h0 o l.length cap (partCells l) rfl HNO.o hl (partCells_len l) (parts_cells (HIN.o.grow (below_trans HB6.o hO.bel))) (partCells_one l) (by unfold maxLen; omega) (by omega) hO.bel.size ?_
            intro v' W' h2 h3 h4
            try simp only [Nat.zero_add, List.nil_append] at h2
            have hA := hO.app 0 (by rw [e0]; exact h2) (by rw [e0]; exact h3) (by rw [e0]; exact h4)
            rw [e0] at hA
            exact hK _ _ ⟨updO f 0 ⟨53, 5, v', l.length, (partCells l)⟩, x16, x17, x55, x56, _, v', x59, x60, x61, x62, x63, x64, x65, rfl, hA, ⟨(fun _ => d0), (fun _ => rfl), (fun h => tf d0 h), (fun _ h => tf (show true = true from rfl) h), (fun _ _ => rfl), (fun h => tf (hP.c5 h) hb), (hP.x0), (hP.x5), (hP.p1), (hP.p3), (hP.p6), (hP.p7), (hP.p8), (hP.p9), (hP.p10), (hP.p11), (hP.p12)⟩⟩
          · have ho2 := ho
            simp only [List.getElem?_toArray, List.getElem?_cons_zero, List.getElem?_cons_succ] at ho2
            refine wpOp_step ho (fun K hK => ?_)
            obtain rfl := Option.some.inj ho2
            clear ho2 ho
            rw [if_pos (by rfl)]
            have hx := HX6.o.kept hO.bel HX6.o.lt
            have y0 := hx.at_ 0
            have y1 := hx.at_ 1
            have y2 := hx.at_ 2
            have y3 := hx.at_ 3
            have y4 := hx.at_ 4
            go_simp
            exact hK _ _ ⟨f, x16, x17, x55, x56, x57, x58, _, x60, x61, x62, x63, x64, x65, rfl, hO, ⟨(hP.c2), (hP.c5), (hP.a0), (hP.a1), (hP.a3), (hP.a6), (hP.x0), (hP.x5), (hP.p1), (fun _ => rfl), (hP.p6), (hP.p7), (hP.p8), (hP.p9), (hP.p10), (hP.p11), (hP.p12)⟩⟩
          · have ho2 := ho
            simp only [List.getElem?_toArray, List.getElem?_cons_zero, List.getElem?_cons_succ] at ho2
            refine wpOp_step ho (fun K hK => ?_)
            obtain rfl := Option.some.inj ho2
            clear ho2 ho
            have d3 : b 3 = true := depB hd (by kernel_rfl)
            rw [if_pos (by rfl)]
            obtain rfl := hP.p3 d3
            unfold mcV
            go_simp
            exact hK _ _ ⟨updO f 1 ⟨53, 5, .slice (some ⟨W.heap.size, 0, none⟩) 1 1, 1, (mcL s0 s1 s2)⟩, x16, x17, x55, x56, x57, x58, _, _, x61, x62, x63, x64, x65, rfl, hO.new 1 rfl rfl (by decide), ⟨(hP.c2), (hP.c5), (hP.a0), (hP.a1), (hP.a3), (hP.a6), (fun h => tf (show true = true from rfl) h), (fun _ => rfl), (hP.p1), (hP.p3), (hP.p6), (hP.p7), (hP.p8), (hP.p9), (hP.p10), (hP.p11), (hP.p12)⟩⟩
          · have ho2 := ho
            simp only [List.getElem?_toArray, List.getElem?_cons_zero, List.getElem?_cons_succ] at ho2
            refine wpOp_step ho (fun K hK => ?_)
            obtain rfl := Option.some.inj ho2
            clear ho2 ho
            have d2 : b 2 = true := depB hd (by kernel_rfl)
            have d4 : b 4 = true := depB hd (by kernel_rfl)
            rw [if_pos (by rfl)]
            have e0 := hP.a3 d2 hb
            have h0 := hO.own 0
            rw [e0] at h0
            have h1 := hO.own 1
            rw [hP.x5 d4] at h1
            obtain ⟨gx, cx, hvx, hcx, hclx⟩ := own_form h1 Nat.zero_lt_one
            refine wp_append_src W (.tmp 58) (.tmp 60) 41 rfl w6.heap.size 53 i0 (.agg #[.bool false, .string ⟨#[]⟩, .string ⟨#[]⟩, .string ⟨#[]⟩, .string ⟨#[]⟩]) 5 72 Tryd.underlying41 hi hz0 hz1 hz2 rfl (by decide) x58 l.length (partCells l) rfl h0 (some ⟨gx, 0, none⟩) 1 cx (mcL s0 s1 s2) hvx (fun h => by cases h) hcx rfl hclx (by first | exact part_one _ _ _ _ _ | exact all_ints [_]) (by unfold maxLen; omega) (by omega) hO.bel.size ?_
            intro v' W' h2 h3 h4
            try simp only [Nat.zero_add, List.nil_append] at h2
            have hA := hO.app 0 (by rw [e0]; exact h2) (by rw [e0]; exact h3) (by rw [e0]; exact h4)
            rw [e0] at hA
            exact hK _ _ ⟨updO f 0 ⟨53, 5, v', (l.length + 1), (partCells l ++ mcL s0 s1 s2)⟩, x16, x17, x55, x56, x57, x58, x59, x60, v', x62, x63, x64, x65, rfl, hA, ⟨(hP.c2), (fun _ => d2), (fun h => tf (hP.c2 d2) h), (fun _ h => tf d2 h), (fun _ h => tf (show true = true from rfl) h), (fun _ => rfl), (hP.x0), (hP.x5), (hP.p1), (hP.p3), (hP.p6), (hP.p7), (hP.p8), (hP.p9), (hP.p10), (hP.p11), (hP.p12)⟩⟩
          · have ho2 := ho
            simp only [List.getElem?_toArray, List.getElem?_cons_zero, List.getElem?_cons_succ] at ho2
            refine wpOp_step ho (fun K hK => ?_)
            obtain rfl := Option.some.inj ho2
            clear ho2 ho
            rw [if_pos (by rfl)]
            go_simp
            exact hK _ _ ⟨f, x16, x17, x55, x56, x57, x58, x59, x60, x61, _, x63, x64, x65, rfl, hO, ⟨(hP.c2), (hP.c5), (hP.a0), (hP.a1), (hP.a3), (hP.a6), (hP.x0), (hP.x5), (hP.p1), (hP.p3), (fun _ => rfl), (hP.p7), (hP.p8), (hP.p9), (hP.p10), (hP.p11), (hP.p12)⟩⟩
          · have ho2 := ho
            simp only [List.getElem?_toArray, List.getElem?_cons_zero, List.getElem?_cons_succ] at ho2
            refine wpOp_step ho (fun K hK => ?_)
            obtain rfl := Option.some.inj ho2
            clear ho2 ho
            have d5 : b 5 = true := depB hd (by kernel_rfl)
            have d6 : b 6 = true := depB hd (by kernel_rfl)
            rw [if_pos (by rfl)]
            have h0 := hO.own 0
            rw [hP.a6 d5] at h0
            have hr : PRow W w6.heap.size x61 (l ++ [moreM ⟨true, [], s0, s1, s2⟩]) := by unfold PRow; rw [partCells_snoc, List.length_append]; exact h0
            obtain ⟨o1, c1, hv1, hl1, hc1, hin1⟩ := prow_in hr
            rw [List.length_append, List.length_singleton] at hv1
            subst hv1
            obtain rfl := hP.p6 d6
            have hpk := pick_any o1 c1 (l ++ [moreM ⟨true, [], s0, s1, s2⟩]) po pc ps W hl1 hc1 hin1 HLM.o hpl hpc (HPI2.o W (below_trans HB6.o hO.bel))
            unfold PickPost at hpk
            rw [HMN.o] at hpk
            simp only [Option.getD_none, Option.isSome_none, Bool.false_eq_true, if_false] at hpk
            simp only [List.length_append, List.length_singleton] at hpk
            have HPK := hq hpk
            have HK := hq hK
            clear hpk h0 hr hK
            go_simp
            refine HPK.o.mono ?_
            rintro e W' ⟨rfl, hb'⟩
            go_wp2_with fail
            exact HK.o _ _ ⟨f, x16, x17, x55, x56, x57, x58, x59, x60, _, _, _, x64, x65, rfl, hO.grow hb', ⟨(hP.c2), (hP.c5), (hP.a0), (hP.a1), (hP.a3), (hP.a6), (hP.x0), (hP.x5), (hP.p1), (hP.p3), (hP.p6), (fun _ => rfl), (hP.p8), (hP.p9), (hP.p10), (hP.p11), (hP.p12)⟩⟩
          · have ho2 := ho
            simp only [List.getElem?_toArray, List.getElem?_cons_zero, List.getElem?_cons_succ] at ho2
            refine wpOp_step ho (fun K hK => ?_)
            obtain rfl := Option.some.inj ho2
            clear ho2 ho
            have d7 : b 7 = true := depB hd (by kernel_rfl)
            rw [if_pos (by rfl)]
            obtain rfl := hP.p7 d7
            go_simp
            exact hK _ _ ⟨f, x16, x17, _, x56, x57, x58, x59, x60, x61, x62, _, x64, x65, rfl, hO, ⟨(hP.c2), (hP.c5), (hP.a0), (hP.a1), (hP.a3), (hP.a6), (hP.x0), (hP.x5), (hP.p1), (hP.p3), (hP.p6), (hP.p7), (fun _ => rfl), (hP.p9), (hP.p10), (hP.p11), (hP.p12)⟩⟩
          · have ho2 := ho
            simp only [List.getElem?_toArray, List.getElem?_cons_zero, List.getElem?_cons_succ] at ho2
            refine wpOp_step ho (fun K hK => ?_)
            obtain rfl := Option.some.inj ho2
            clear ho2 ho
            have d8 : b 8 = true := depB hd (by kernel_rfl)
            rw [if_pos (by rfl)]
            obtain rfl := hP.p8 d8
            go_simp
            exact hK _ _ ⟨f, x16, x17, _, x56, x57, x58, x59, x60, x61, x62, x63, _, x65, rfl, hO, ⟨(hP.c2), (hP.c5), (hP.a0), (hP.a1), (hP.a3), (hP.a6), (hP.x0), (hP.x5), (hP.p1), (hP.p3), (hP.p6), (hP.p7), (hP.p8), (fun _ => rfl), (hP.p10), (hP.p11), (hP.p12)⟩⟩
          · have ho2 := ho
            simp only [List.getElem?_toArray, List.getElem?_cons_zero, List.getElem?_cons_succ] at ho2
            refine wpOp_step ho (fun K hK => ?_)
            obtain rfl := Option.some.inj ho2
            clear ho2 ho
            have d8 : b 8 = true := depB hd (by kernel_rfl)
            rw [if_pos (by rfl)]
            obtain rfl := hP.p8 d8
            go_simp
            exact hK _ _ ⟨f, x16, x17, _, x56, x57, x58, x59, x60, x61, x62, x63, x64, _, rfl, hO, ⟨(hP.c2), (hP.c5), (hP.a0), (hP.a1), (hP.a3), (hP.a6), (hP.x0), (hP.x5), (hP.p1), (hP.p3), (hP.p6), (hP.p7), (hP.p8), (hP.p9), (fun _ => rfl), (hP.p11), (hP.p12)⟩⟩
          · have ho2 := ho
            simp only [List.getElem?_toArray, List.getElem?_cons_zero, List.getElem?_cons_succ] at ho2
            refine wpOp_step ho (fun K hK => ?_)
            obtain rfl := Option.some.inj ho2
            clear ho2 ho
            have d0 : b 0 = true := depB hd (by kernel_rfl)
            have d1 : b 1 = true := depB hd (by kernel_rfl)
            have d2 : b 2 = true := depB hd (by kernel_rfl)
            have d3 : b 3 = true := depB hd (by kernel_rfl)
            have d4 : b 4 = true := depB hd (by kernel_rfl)
            have d5 : b 5 = true := depB hd (by kernel_rfl)
            have d6 : b 6 = true := depB hd (by kernel_rfl)
            have d7 : b 7 = true := depB hd (by kernel_rfl)
            have d8 : b 8 = true := depB hd (by kernel_rfl)
            have d9 : b 9 = true := depB hd (by kernel_rfl)
            rw [if_pos (by rfl)]
            obtain rfl := hP.p9 d9
            go_simp
            exact hK _ _ ⟨f, _, x17, x55, x56, x57, x58, x59, x60, x61, x62, x63, _, x65, rfl, hO, ⟨(hP.c2), (hP.c5), (hP.a0), (hP.a1), (hP.a3), (hP.a6), (hP.x0), (hP.x5), (hP.p1), (hP.p3), (hP.p6), (hP.p7), (hP.p8), (hP.p9), (hP.p10), (fun _ => rfl), (hP.p12)⟩⟩
          · have ho2 := ho
            simp only [List.getElem?_toArray, List.getElem?_cons_zero, List.getElem?_cons_succ] at ho2
            refine wpOp_step ho (fun K hK => ?_)
            obtain rfl := Option.some.inj ho2
            clear ho2 ho
            have d10 : b 10 = true := depB hd (by kernel_rfl)
            have d11 : b 11 = true := depB hd (by kernel_rfl)
            rw [if_pos (by rfl)]
            obtain rfl := hP.p10 d10
            go_simp
            exact hK _ _ ⟨f, x16, _, x55, x56, x57, x58, x59, x60, x61, x62, x63, x64, _, rfl, hO, ⟨(hP.c2), (hP.c5), (hP.a0), (hP.a1), (hP.a3), (hP.a6), (hP.x0), (hP.x5), (hP.p1), (hP.p3), (hP.p6), (hP.p7), (hP.p8), (hP.p9), (hP.p10), (hP.p11), (fun _ => rfl)⟩⟩
        · rintro b a W ⟨f, x16, x17, x55, x56, x57, x58, x59, x60, x61, x62, x63, x64, x65, rfl, hO, hP⟩ hr
          have T0 : ∀ j, j < 0 → b j = true := fun j hj => absurd hj (Nat.not_lt_zero j)
          have t0 : b 0 = true := hr 0 _ rfl (allB (n := 0) (by kernel_rfl) T0)
          have T1 := upS T0 t0
          have t1 : b 1 = true := hr 1 _ rfl (allB (n := 1) (by kernel_rfl) T1)
          have T2 := upS T1 t1
          have t2 : b 2 = true := hr 2 _ rfl (allB (n := 2) (by kernel_rfl) T2)
          have T3 := upS T2 t2
          have t3 : b 3 = true := hr 3 _ rfl (allB (n := 3) (by kernel_rfl) T3)
          have T4 := upS T3 t3
          have t4 : b 4 = true := hr 4 _ rfl (allB (n := 4) (by kernel_rfl) T4)
          have T5 := upS T4 t4
          have t5 : b 5 = true := hr 5 _ rfl (allB (n := 5) (by kernel_rfl) T5)
          have T6 := upS T5 t5
          have t6 : b 6 = true := hr 6 _ rfl (allB (n := 6) (by kernel_rfl) T6)
          have T7 := upS T6 t6
          have t7 : b 7 = true := hr 7 _ rfl (allB (n := 7) (by kernel_rfl) T7)
          have T8 := upS T7 t7
          have t8 : b 8 = true := hr 8 _ rfl (allB (n := 8) (by kernel_rfl) T8)
          have T9 := upS T8 t8
          have t9 : b 9 = true := hr 9 _ rfl (allB (n := 9) (by kernel_rfl) T9)
          have T10 := upS T9 t9
          have t10 : b 10 = true := hr 10 _ rfl (allB (n := 10) (by kernel_rfl) T10)
          have T11 := upS T10 t10
          have t11 : b 11 = true := hr 11 _ rfl (allB (n := 11) (by kernel_rfl) T11)
          have T12 := upS T11 t11
          have t12 : b 12 = true := hr 12 _ rfl (allB (n := 12) (by kernel_rfl) T12)
          have T13 := upS T12 t12
          obtain rfl := hP.p11 t11
          obtain rfl := hP.p12 t12
          have HB7 := hq (below_trans HB6.o hO.bel)
          have hx7 := HX6.o.kept hO.bel HX6.o.lt
          have y0 := HZC.o _ hx7
          clear hO hP hr hx7 t0 T0 t1 T1 t2 T2 t3 T3 t4 T4 t5 T5 t6 T6 t7 T7 t8 T8 t9 T9 t10 T10 t11 T11 t12 T12
          dsimp only
          have HCT := hq (cat_st S (sideM ⟨true, [], s0, s1, s2⟩ (z : Int)))
          have hsd : (sideM ⟨true, [], s0, s1, s2⟩ (z : Int)).length ≤ 1048576 := by
            unfold sideM
            split
            · exact x1
            · split
              · exact x2
              · exact x3
          generalize sideM ⟨true, [], s0, s1, s2⟩ (z : Int) = SD at *
          have hz0' : (0 : Int) ≤ (z : Int) := Int.natCast_nonneg _
          have hz1' : (z : Int) < 3 := by omega
          have hct : (st S ++ st SD : ByteArray) = st (S ++ SD) := HCT.o
          clear HZC HMP HMN HLM
          go_wp2_with fail
          go_ret
          exact ⟨rfl, HB7.o⟩
end Go.Proofs.YtekihjffefokjaaDoor
