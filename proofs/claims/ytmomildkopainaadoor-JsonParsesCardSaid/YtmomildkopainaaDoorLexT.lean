/-
  WALKS: lex.Tokens.
-/
import Derived.Test.YtmomildkopainaaDoorLexX
import Derived.Test.YtmomildkopainaaDoorRowMem
namespace Go.Proofs.YtmomildkopainaaDoor
open Go.RowKit Go.Shelf
attribute [local go_sem] Oper.semAt_some

def tokCells (l : List Tok) : List Value := l.flatMap fun x => [.int .i64 (x.1 : Int), .int .i64 (x.2.1 : Int), .int .i64 (x.2.2 : Int)]
theorem tokCells_len (l : List Tok) : (tokCells l).length = l.length * 3 := by
  induction l with
  | nil => rfl
  | cons x l ih => simp only [tokCells, List.flatMap_cons, List.length_append, List.length_cons, List.length_nil] at *; omega
theorem tokCells_snoc (l : List Tok) (x : Tok) : tokCells (l ++ [x]) = tokCells l ++ [.int .i64 (x.1 : Int), .int .i64 (x.2.1 : Int), .int .i64 (x.2.2 : Int)] := by simp [tokCells]
theorem infoTok : (Tryd.prog.info? 61).map (fun i => (i.zero, i.size, i.bytes)) = some (some (.agg #[.int .i64 0, .int .i64 0, .int .i64 0]), 3, 24) := by kernel_rfl
def TokPost (r : List Tok × Nat × Int) (w : World) (e : Ending) (w' : World) : Prop :=
  ∃ v, e = .returned (.tuple #[v, .int .i64 (r.2.1 : Int), .int .i64 r.2.2]) ∧ w'.ownsRow w.heap.size 61 3 v r.1.length (tokCells r.1) ∧ Below w.heap.size w w'
def tokOf (x : Item) : Tok := (x.1, x.2.1, x.2.2.1)

theorem itemsL_toks (s : ByteArray) : ∀ (f p : Nat), itemsL s f p = (toksL s f p).1.map (fun x => (x.1, x.2.1, x.2.2, 0)) ++ (if (toksL s f p).2.2 ≠ 0 then [(0, (toksL s f p).2.1, (toksL s f p).2.1, (toksL s f p).2.2)] else [])
  | 0, p => by simp [itemsL, toksL]
  | f + 1, p => by
    by_cases hp : p < s.size
    · by_cases he : (oneM s p).2.2 ≠ 0
      · rw [itemsL, if_pos hp, if_pos he, toksL, if_pos hp, if_pos he]
        simp only [List.map_nil, List.nil_append]
        rw [if_pos he]
      · rw [itemsL, if_pos hp, if_neg he, toksL, if_pos hp, if_neg he, itemsL_toks s f]
        rfl
    · rw [itemsL, if_neg hp, toksL, if_neg hp]
      simp
theorem items_ok {s : ByteArray} (h : ∀ x ∈ items s, x.2.2.2 = 0) : tokensM s = ((items s).map tokOf, s.size, 0) := by
  unfold tokensM items at *
  by_cases hl : 65536 < s.size
  · rw [if_pos hl] at h
    have := h (0, 0, 0, 3) (by simp)
    cases this
  · rw [if_neg hl] at h ⊢
    rw [if_neg hl, itemsL_toks] at *
    unfold toksM
    rw [toksGo_L]
    simp only [List.nil_append]
    by_cases he : (toksL s s.size 0).2.2 ≠ 0
    · rw [if_pos he] at h
      exact absurd (h (0, (toksL s s.size 0).2.1, (toksL s s.size 0).2.1, (toksL s s.size 0).2.2) (by simp)) he
    · rw [if_neg he, if_neg he]
      simp only [List.append_nil, List.map_map, Prod.mk.injEq, and_true]
      exact (List.map_id' _).symm
theorem items_bad {s : ByteArray} {pre : List Item} {x : Item} (h : pre ++ [x] <+: items s) (hx : x.2.2.2 ≠ 0) : tokensM s = ([], x.2.1, x.2.2.2) := by
  have hm : x ∈ items s := h.subset (by simp)
  unfold tokensM items at *
  by_cases hl : 65536 < s.size
  · rw [if_pos hl] at hm ⊢
    rw [List.mem_singleton.1 hm]
  · rw [if_neg hl] at hm ⊢
    rw [itemsL_toks] at hm
    unfold toksM
    rw [toksGo_L]
    simp only
    rcases List.mem_append.1 hm with h1 | h1
    · obtain ⟨y, _, rfl⟩ := List.mem_map.1 h1
      exact absurd rfl hx
    · by_cases he : (toksL s s.size 0).2.2 ≠ 0
      · rw [if_pos he] at h1 ⊢
        rw [List.mem_singleton.1 h1]
      · rw [if_neg he] at h1; cases h1

theorem itemsL_len (s : ByteArray) : ∀ (f p : Nat), p ≤ s.size → (itemsL s f p).length ≤ s.size - p
  | 0, p, _ => Nat.zero_le _
  | f + 1, p, hps => by
    by_cases hp : p < s.size
    · obtain ⟨b1, b2, b3, b4⟩ := oneM_bd s p hp
      by_cases he : (oneM s p).2.2 ≠ 0
      · rw [itemsL, if_pos hp, if_pos he]; simp; omega
      · have := itemsL_len s f (oneM s p).2.1 b2
        have b5 := (b4 (by omega)).1
        rw [itemsL, if_pos hp, if_neg he, List.length_cons]; omega
    · rw [itemsL, if_neg hp]; simp
theorem items_len (s : ByteArray) : (items s).length ≤ 65537 := by
  unfold items
  split
  · simp
  · have := itemsL_len s s.size 0 (Nat.zero_le _); omega
theorem boxed_grown {A B : World} {b : Nat} {t : TypeId} {v : Value} {row : Option Nat} (h : Boxed A b t v) (hg : A.grownBy B row) (hr : ∀ r, row = some r → ∃ o : Obj, A.heap[r]? = some o ∧ o.isCells = false) : Boxed B b t v :=
  boxed_own b t (fun (_ : Unit) => v) () A B row h hg hr
theorem whole_grown {A B : World} {b : Nat} {t : TypeId} {cs : Array Value} {row : Option Nat} (h : Whole A b t cs) (hg : A.grownBy B row) (hr : ∀ r, row = some r → ∃ o : Obj, A.heap[r]? = some o ∧ o.isCells = false) : Whole B b t cs :=
  (hg.block b h.lt (fun e => by obtain ⟨o, ho, hc⟩ := hr b e.symm; rw [show A.heap[b]? = _ from h] at ho; cases ho; cases hc)).trans h
set_option maxRecDepth 100000 in
set_option maxHeartbeats 4000000 in
theorem tokens4_any (s : ByteArray) (w : World) (hT : tabs w) (hs : s.size ≤ maxLen) : Calls Tryd.prog 28 #[.string s] w (TokPost (tokensM s) w) := by
  obtain ⟨i0, hi, hz0, hz1, hz2⟩ := info_parts infoTok
  have HT := hq hT
  have hsb : s.size ≤ 9223372036854775807 := by unfold maxLen at hs; omega
  refine (callsIn_wide (n := 10)).1 ?_
  refine callsIn_of_wp_marks Tryd.func28 rfl trivial ?_ rfl
  simp only [Tryd.ntmps28, List.size_toArray, List.length_cons, List.length_nil, Nat.reduceAdd, Nat.reduceSub, Array.replicate_succ, Array.replicate_zero, List.push_toArray, List.append_toArray, List.nil_append, List.cons_append]
  gi_wp2_with (refine ⟨trivial, ?_⟩; gi_at_call 50; refine (callsIn_wide.2 (all4_any s _)).mono ?_; rintro e w' ⟨rfl, rfl⟩)
  have b2 := ((((Boxed.new w 54 (.slice none 0 0)).alloc (.cells #[.int .i64 0] 3)).alloc (.cells #[.int .i64 0] 26)).alloc (.cells #[.slice none 0 0] 54)).alloc (.cells #[.string s] 9)
  have b3 := (((Boxed.new (w.alloc (.cells #[.slice none 0 0] 54)) 3 (.int .i64 0)).alloc (.cells #[.int .i64 0] 26)).alloc (.cells #[.slice none 0 0] 54)).alloc (.cells #[.string s] 9)
  have b4 := ((Boxed.new ((w.alloc (.cells #[.slice none 0 0] 54)).alloc (.cells #[.int .i64 0] 3)) 26 (.int .i64 0)).alloc (.cells #[.slice none 0 0] 54)).alloc (.cells #[.string s] 9)
  have b5 := (Boxed.new (((w.alloc (.cells #[.slice none 0 0] 54)).alloc (.cells #[.int .i64 0] 3)).alloc (.cells #[.int .i64 0] 26)) 54 (.slice none 0 0)).alloc (.cells #[.string s] 9)
  have b6 := Boxed.new ((((w.alloc (.cells #[.slice none 0 0] 54)).alloc (.cells #[.int .i64 0] 3)).alloc (.cells #[.int .i64 0] 26)).alloc (.cells #[.slice none 0 0] 54)) 9 (.string s)
  have hB0 := ((((below_alloc w (.cells #[.slice none 0 0] 54)).alloc (by simp) (.cells #[.int .i64 0] 3)).alloc (by simp; omega) (.cells #[.int .i64 0] 26)).alloc (by simp; omega) (.cells #[.slice none 0 0] 54)).alloc (by simp; omega) (.cells #[.string s] 9)
  have hsz : (((((w.alloc (.cells #[.slice none 0 0] 54)).alloc (.cells #[.int .i64 0] 3)).alloc (.cells #[.int .i64 0] 26)).alloc (.cells #[.slice none 0 0] 54)).alloc (.cells #[.string s] 9)).heap.size = w.heap.size + 5 := by simp
  simp only [World.size_alloc] at b3 b4 b5 b6
  obtain ⟨W0, hW0⟩ : ∃ W0, ((((w.alloc (.cells #[.slice none 0 0] 54)).alloc (.cells #[.int .i64 0] 3)).alloc (.cells #[.int .i64 0] 26)).alloc (.cells #[.slice none 0 0] 54)).alloc (.cells #[.string s] 9) = W0 := ⟨_, rfl⟩
  rw [hW0] at b2 b3 b4 b5 b6 hB0 hsz ⊢
  clear hW0
  generalize hn₀ : w.heap.size = n₀ at *
  refine wpIn_rangeFunc_ownH rfl (by omega) (gf := 74) (lb := #[.pointer (some ⟨n₀ + 1 + 1 + 1 + 1, 0, none⟩)]) rfl trivial (enters_of Tryd.func74 (by kernel_rfl) rfl)
    (all4_stops (n₀ + 1 + 1 + 1 + 1) n₀ s hs W0 b6.cell b6.lt (fun A hA => tabs_grow HT.o (by rw [hn₀]; exact hB0.trans hA)) (by omega))
    (fun h k => ⟨h.1.trans k.1, k.2.trans h.2⟩)
    (fun W l o o' hl ho h1 h2 => ⟨belowK_b (w := W0) (by omega) W l o o' hl ho h1 h2, World.putObj_heap_other (by omega)⟩)
    (Below.refl _ _) (fun _ => rfl)
    (fun pre W => ((∃ v, Boxed W (n₀ + 1 + 1 + 1) 54 v ∧ W.ownsRow n₀ 61 3 v pre.length (tokCells (pre.map tokOf)) ∧ True) ∧ (Boxed W n₀ 54 (.slice none 0 0) ∧ Boxed W (n₀ + 1) 3 (.int .i64 0) ∧ Boxed W (n₀ + 1 + 1) 26 (.int .i64 0) ∧ Boxed W (n₀ + 1 + 1 + 1 + 1) 9 (.string s)) ∧ (∀ x ∈ pre, x.2.2.2 = 0)) ∧ Below n₀ w W)
    (fun c pre W => (c = .ret ∧ ∃ pre' x, pre = pre' ++ [x] ∧ x.2.2.2 ≠ 0 ∧ Boxed W n₀ 54 (.slice none 0 0) ∧ Boxed W (n₀ + 1) 3 (.int .i64 (x.2.1 : Int)) ∧ Boxed W (n₀ + 1 + 1) 26 (.int .i64 x.2.2.2)) ∧ Below n₀ w W)
    ?own ?ownx
    ⟨⟨⟨_, b5, World.ownsRow_nil _ _ _ _, trivial⟩, ⟨b2, b3, b4, b6⟩, fun x hx => by cases hx⟩, hB0⟩
    (fun x a' W => ∃ Bx, n₀ + 1 + 1 + 1 + 1 < Bx ∧ Whole W Bx 61 #[.int .i64 (x.1 : Int), .int .i64 (x.2.1 : Int), .int .i64 (x.2.2.1 : Int)] ∧ a' = { tmps := #[.string s, undef, .pointer (some ⟨n₀, 0, none⟩), .pointer (some ⟨n₀ + 1, 0, none⟩), .pointer (some ⟨n₀ + 1 + 1, 0, none⟩), .pointer (some ⟨n₀ + 1 + 1 + 1, 0, none⟩), .pointer (some ⟨Bx, 0, none⟩), .int .i64 x.2.2.2, .string s, .func (.func 74) #[] #[.pointer (some ⟨n₀ + 1 + 1 + 1 + 1, 0, none⟩)], tokV x.1 x.2.1 x.2.2.1, .int .i64 x.2.2.2, undef, undef, undef, undef, undef, undef, undef, undef, undef, undef, undef, undef, undef], defers := [] })
    ?ownA ?assign ?body ?done ?stop
  case own =>
    exact OwnFrom.and (OwnFrom.and (Own.from (holdsRow_own (β := List Item) n₀ (n₀ + 1 + 1 + 1) 54 61 3 (fun pre => pre.length) (fun pre => tokCells (pre.map tokOf)) (fun _ _ => True)) _)
      (OwnFrom.and (OwnFrom.and (Own.from (boxed_own _ _ (fun _ => Value.slice none 0 0)) _) (OwnFrom.and (Own.from (boxed_own _ _ (fun _ => Value.int .i64 0)) _) (OwnFrom.and (Own.from (boxed_own _ _ (fun _ => Value.int .i64 0)) _) (Own.from (boxed_own _ _ (fun _ => Value.string s)) _)))) (ownFrom_pure _ _)))
      (ownFrom_below (by omega) (by omega))
  case ownx =>
    rintro c pre A B row ⟨⟨rfl, pre', x, rfl, hx, d2, d3, d4⟩, hb⟩ hg hr
    have hr' := fun r e => (hr r e).2
    exact ⟨⟨rfl, pre', x, rfl, hx, boxed_grown d2 hg hr', boxed_grown d3 hg hr', boxed_grown d4 hg hr'⟩, ownFrom_below (β := Unit) (n₀ := n₀) (B := W0.heap.size) (by omega) (by omega) () A B row hb hg hr⟩
  case ownA =>
    rintro x a' _ A B row ⟨Bx, h1, h2, h3⟩ hg hr
    exact ⟨Bx, h1, whole_grown h2 hg (fun r e => (hr r e).2), h3⟩
  case assign =>
    rintro l pre x W K ⟨⟨⟨v, hv, hrow, _⟩, ⟨c2, c3, c4, c6⟩, hz⟩, hB⟩ hK
    have hWs : n₀ ≤ W.heap.size := by have := hB.size; omega
    have h6 := c6.lt
    gi_wp2
    exact hK _ _ ((KeepsOthers.alloc _ _).from _) ⟨(Below.refl _ W).alloc hWs _, Below.heap_alloc W _ _ h6⟩ ⟨⟨⟨v, hv.alloc _, hrow.alloc _, trivial⟩, ⟨c2.alloc _, c3.alloc _, c4.alloc _, c6.alloc _⟩, hz⟩, hB.alloc hWs _⟩ ⟨W.heap.size, h6, Whole.made W _ _, rfl⟩
  case body =>
    rintro l pre x a' W hl hr ⟨⟨⟨v, hv, hrow, _⟩, ⟨c2, c3, c4, c6⟩, hz⟩, hB⟩ ⟨Bx, hBx, bX, rfl⟩ hlt
    obtain ⟨k, a, b, err⟩ := x
    simp only at bX
    have hWs : n₀ ≤ W.heap.size := by have := hB.size; omega
    have hcv := hv.cell
    have x0 := bX.at_ 0
    have x1 := bX.at_ 1
    have x2 := bX.at_ 2
    by_cases he : err ≠ 0
    · have e1 : (err != 0) = true := bne_iff_ne.2 he
      have d2 := c2.cell
      have d3 := c3.cell
      have d4 := c4.cell
      have f2 := c2.frozen
      have f3 := c3.frozen
      have f4 := c4.frozen
      have hmx : Tryd.prog.follows .mixedOrders = true := by kernel_rfl
      gi_wp2
      gi_region_o
      all_goals gi_wp2
      all_goals (try go_bits)
      all_goals exact ⟨((((KeepsOthers.setCell _ _ _).trans (KeepsOthers.setCell _ _ _)).trans (KeepsOthers.setCell _ _ _)).trans (KeepsOthers.drew _)).from _,
        ⟨rfl, pre, (k, a, b, err), rfl, he, ((c2.set _).other (by omega) _).other (by omega) _, ((c3.other (by omega) _).set _).other (by omega) _, ((c4.other (by omega) _).other (by omega) _).set _⟩,
        (((hB.setCell (p := ⟨n₀, 0, none⟩) (Nat.le_refl _) _).setCell (p := ⟨n₀ + 1, 0, none⟩) (Nat.le_succ _) _).setCell (p := ⟨n₀ + 1 + 1, 0, none⟩) (by simp only; omega) _).drew⟩
    · have he0 : err = 0 := by omega
      have e1 : (err != 0) = false := by rw [he0]; rfl
      have hpl : pre.length ≤ 1099511627776 := by have := items_len s; omega
      clear he
      gi_wp2_with (gi_at_builtin; refine wpListIn_append_own _ rfl _ _ 54 rfl n₀ 61 i0 (.agg #[.int .i64 0, .int .i64 0, .int .i64 0]) 3 24 Tryd.underlying54 hi hz0 hz1 hz2 rfl (by decide) _ _ _ rfl (hrow.alloc _) ⟨W.heap.size, 0, none⟩ 1 1 [.int .i64 (k : Int), .int .i64 (a : Int), .int .i64 (b : Int)] rfl rfl (cells_of_new _ [.int .i64 (k : Int), .int .i64 (a : Int), .int .i64 (b : Int)] _) (three_ints _ _ _) (by unfold maxLen; omega) (by omega) (by rw [World.size_alloc]; omega) ?_; intro v' w1 hown' hgrow _; obtain ⟨g', cap', rfl⟩ := ownsRow_succ hown'; obtain ⟨hv1, hv2, hr2, hk2, hb2⟩ := hv.appended (by decide) hrow hWs (by omega) hown' hgrow; have hc1 := hv1.cell; have hf1 := hv1.frozen)
      have g1 : tokCells ((pre ++ [(k, a, b, err)]).map tokOf) = tokCells (pre.map tokOf) ++ [.int .i64 (k : Int), .int .i64 (a : Int), .int .i64 (b : Int)] := by rw [List.map_append]; exact tokCells_snoc _ _
      have g2 : (pre ++ [(k, a, b, err)]).length = pre.length + 1 := by simp
      have d2 := (((c2.alloc _).kept hgrow (c2.not_row (by decide) hrow)).other (B' := n₀ + 1 + 1 + 1) (by omega) (.slice (some ⟨g', 0, none⟩) (pre.length + 1) cap'))
      have d3 := (((c3.alloc _).kept hgrow (c3.not_row (by decide) hrow)).other (B' := n₀ + 1 + 1 + 1) (by omega) (.slice (some ⟨g', 0, none⟩) (pre.length + 1) cap'))
      have d4 := (((c4.alloc _).kept hgrow (c4.not_row (by decide) hrow)).other (B' := n₀ + 1 + 1 + 1) (by omega) (.slice (some ⟨g', 0, none⟩) (pre.length + 1) cap'))
      have d6 := (((c6.alloc _).kept hgrow (c6.not_row (by decide) hrow)).other (B' := n₀ + 1 + 1 + 1) (by omega) (.slice (some ⟨g', 0, none⟩) (pre.length + 1) cap'))
      refine ⟨hk2.from _, ⟨hb2, Eq.trans d6 (Eq.symm c6)⟩, ⟨⟨_, hv2, ?_, trivial⟩, ⟨d2, d3, d4, d6⟩, fun y hy => (List.mem_append.1 hy).elim (hz y) (fun h => by rw [List.mem_singleton.1 h]; exact he0)⟩, hB.trans hb2⟩
      rw [g1, g2]
      exact hr2
  case done =>
    rintro D xs W hD rfl ⟨⟨⟨v, hv, hrow, _⟩, ⟨c2, c3, c4, c6⟩, hz⟩, hB⟩ hK
    obtain ⟨vb, vn, vc, rfl⟩ := row_form hrow
    have hcv := hv.cell
    have d2 := c2.cell
    have d3 := c3.cell
    have d4 := c4.cell
    have f2 := c2.frozen
    have f3 := c3.frozen
    have f4 := c4.frozen
    gi_wp2
    have hK2 : (((W.setCell ⟨n₀, 0, none⟩ (.slice vb vn vc)).setCell ⟨n₀ + 1, 0, none⟩ (.int .i64 (s.size : Int))).setCell ⟨n₀ + 1 + 1, 0, none⟩ (.int .i64 0)).heap[D]? = some (.deferred (some [])) := (((KeepsOthers.setCell W ⟨n₀, 0, none⟩ (.slice vb vn vc)).trans (KeepsOthers.setCell _ ⟨n₀ + 1, 0, none⟩ (.int .i64 (s.size : Int)))).trans (KeepsOthers.setCell _ ⟨n₀ + 1 + 1, 0, none⟩ (.int .i64 0))).same D _ hK rfl
    have e2 := ((c2.set (.slice vb vn vc)).other (B' := n₀ + 1) (by omega) (.int .i64 (s.size : Int))).other (B' := n₀ + 1 + 1) (by omega) (.int .i64 0)
    have e3 := ((c3.other (B' := n₀) (by omega) (.slice vb vn vc)).set (.int .i64 (s.size : Int))).other (B' := n₀ + 1 + 1) (by omega) (.int .i64 0)
    have e4 := ((c4.other (B' := n₀) (by omega) (.slice vb vn vc)).other (B' := n₀ + 1) (by omega) (.int .i64 (s.size : Int))).set (.int .i64 0)
    have hB2 := ((hB.setCell (p := ⟨n₀, 0, none⟩) (Nat.le_refl _) (.slice vb vn vc)).setCell (p := ⟨n₀ + 1, 0, none⟩) (Nat.le_succ _) (.int .i64 (s.size : Int))).setCell (p := ⟨n₀ + 1 + 1, 0, none⟩) (by simp only; omega) (.int .i64 0)
    have hr2 := ((hrow.kept (grownBy_setCell' W n₀ (.slice vb vn vc)) (.inr (c2.not_row (by decide) hrow).symm)))
    have hr3 := hr2.kept (grownBy_setCell' _ (n₀ + 1) (.int .i64 (s.size : Int))) (.inr ((c3.other (B' := n₀) (by omega) (.slice vb vn vc)).not_row (by decide) hr2).symm)
    have hr4 := hr3.kept (grownBy_setCell' _ (n₀ + 1 + 1) (.int .i64 0)) (.inr (((c4.other (B' := n₀) (by omega) (.slice vb vn vc)).other (B' := n₀ + 1) (by omega) (.int .i64 (s.size : Int))).not_row (by decide) hr3).symm)
    have hTM := items_ok hz
    generalize (((W.setCell ⟨n₀, 0, none⟩ (.slice vb vn vc)).setCell ⟨n₀ + 1, 0, none⟩ (.int .i64 (s.size : Int))).setCell ⟨n₀ + 1 + 1, 0, none⟩ (.int .i64 0)) = W2 at *
    have kp : ∀ r, some D = some r → ∃ o : Obj, W2.heap[r]? = some o ∧ o.isCells = false := fun r e => by cases e; exact ⟨_, hK2, rfl⟩
    have k2 := (boxed_grown e2 (grownBy_putObj' W2 D (.deferred none)) kp).cell
    have k3 := (boxed_grown e3 (grownBy_putObj' W2 D (.deferred none)) kp).cell
    have k4 := (boxed_grown e4 (grownBy_putObj' W2 D (.deferred none)) kp).cell
    refine ⟨by simp, .inl ⟨_, _, rfl, run_takeDeferred hK2, ?_⟩⟩
    refine ⟨.tuple #[.slice vb vn vc, .int .i64 (s.size : Int), .int .i64 0], by simp [results, Tryd.results28, go_sem, k2, k3, k4], .slice vb vn vc, ?_, ?_, ?_⟩
    · rw [hTM]
    · rw [hTM]
      have := ownsRow_putObj hr4 (.deferred none) hK2 rfl
      simpa [hn₀] using this
    · rw [hn₀]
      exact hB2.trans (belowK_b (w := w) (by omega) W2 D _ _ (by omega) hK2 rfl rfl)
  case stop =>
    rintro D c pre W hD hsp ⟨⟨rfl, pre', x, rfl, hx, c2, c3, c4⟩, hB⟩ hK
    gi_wp2
    have kp : ∀ r, some D = some r → ∃ o : Obj, W.heap[r]? = some o ∧ o.isCells = false := fun r e => by cases e; exact ⟨_, hK, rfl⟩
    have k2 := (boxed_grown c2 (grownBy_putObj' W D (.deferred none)) kp).cell
    have k3 := (boxed_grown c3 (grownBy_putObj' W D (.deferred none)) kp).cell
    have k4 := (boxed_grown c4 (grownBy_putObj' W D (.deferred none)) kp).cell
    have hTM := items_bad hsp hx
    refine ⟨by simp, .inl ⟨_, _, rfl, run_takeDeferred hK, ?_⟩⟩
    refine ⟨.tuple #[.slice none 0 0, .int .i64 (x.2.1 : Int), .int .i64 x.2.2.2], by simp [results, Tryd.results28, go_sem, k2, k3, k4], .slice none 0 0, ?_, ?_, ?_⟩
    · rw [hTM]
    · rw [hTM]
      exact World.ownsRow_nil _ _ _ _
    · rw [hn₀]
      exact hB.trans (belowK_b (w := w) (by omega) W D _ _ (by omega) hK rfl rfl)

/-- the cells of a row of tokens -/
theorem tokCells_at (l : List Tok) : ∀ (i : Nat) (x : Tok), l[i]? = some x → (tokCells l)[i * 3]? = some (.int .i64 (x.1 : Int)) ∧ (tokCells l)[i * 3 + 1]? = some (.int .i64 (x.2.1 : Int)) ∧ (tokCells l)[i * 3 + 2]? = some (.int .i64 (x.2.2 : Int)) := by
  induction l with
  | nil => intro i x h; simp at h
  | cons y l ih =>
    intro i x h
    cases i with
    | zero => simp at h; subst h; simp [tokCells]
    | succ i =>
      simp only [List.getElem?_cons_succ] at h
      have := ih i x h
      rw [show (i + 1) * 3 = i * 3 + 1 + 1 + 1 by omega]
      simpa [tokCells] using this
theorem toks_len {w : World} {B n : Nat} {v : Value} {xs : List Value} (h : w.ownsRow B 61 3 v n xs) : ∃ b c, v = .slice b n c := by
  rcases h.2 with ⟨rfl, rfl⟩ | ⟨g, cap, cur, rfl, _⟩
  · exact ⟨_, _, rfl⟩
  · exact ⟨_, _, rfl⟩
theorem toks_cell {w : World} {B : Nat} {v : Value} {l : List Tok} (h : w.ownsRow B 61 3 v l.length (tokCells l)) (hl : 0 < l.length) :
    ∃ g cap, v = .slice (some ⟨g, 0, none⟩) l.length cap ∧ B ≤ g ∧ g < w.heap.size ∧ l.length ≤ cap ∧ cap ≤ maxLen ∧ (∀ o, w.frozen? ⟨g, o, none⟩ = false) ∧
      ∀ (i : Nat) (x : Tok), l[i]? = some x → w.cell? ⟨g, i * 3, none⟩ = some (.int .i64 (x.1 : Int)) ∧ w.cell? ⟨g, i * 3 + 1, none⟩ = some (.int .i64 (x.2.1 : Int)) ∧ w.cell? ⟨g, i * 3 + 2, none⟩ = some (.int .i64 (x.2.2 : Int)) := by
  rcases h.2 with ⟨_, h0⟩ | ⟨g, cap, cur, hv, hg, hh, hc, hm, _⟩
  · omega
  · refine ⟨g, cap, hv, hg, (Array.getElem?_eq_some_iff.1 hh).1, hc, hm, fun o => frozen_of_row w g o cur _ hh, fun i x hi => ?_⟩
    have hcl := h.cells (g := g) (by rw [hv]; rfl)
    have hs := tokCells_at l i x hi
    have e1 : (⟨g, 0, none⟩ : Addr).add (i * 3) = ⟨g, i * 3, none⟩ := by simp [Addr.add]; omega
    have e2 : (⟨g, 0, none⟩ : Addr).add (i * 3 + 1) = ⟨g, i * 3 + 1, none⟩ := by simp [Addr.add]
    have e3 : (⟨g, 0, none⟩ : Addr).add (i * 3 + 2) = ⟨g, i * 3 + 2, none⟩ := by simp [Addr.add]
    refine ⟨?_, ?_, ?_⟩
    · rw [← e1]; exact hcl _ _ hs.1
    · rw [← e2]; exact hcl _ _ hs.2.1
    · rw [← e3]; exact hcl _ _ hs.2.2
theorem tokensM_len (s : ByteArray) : (tokensM s).1.length ≤ 65537 ∧ (tokensM s).2.1 ≤ s.size := by
  by_cases h : ∀ x ∈ items s, x.2.2.2 = 0
  · rw [items_ok h]
    exact ⟨by rw [List.length_map]; exact items_len s, Nat.le_refl _⟩
  · unfold tokensM
    split
    · exact ⟨Nat.zero_le _, Nat.zero_le _⟩
    · have := (toksL_chain s s.size 0 (Nat.zero_le _) (by omega)).1
      unfold toksM
      rw [toksGo_L]
      simp only [List.nil_append]
      split
      · exact ⟨Nat.zero_le _, this⟩
      · rename_i h1 h2
        refine absurd (fun x hx => ?_) h
        unfold items at hx
        rw [if_neg h1, itemsL_toks, if_neg h2, List.append_nil] at hx
        obtain ⟨y, _, rfl⟩ := List.mem_map.1 hx
        rfl
end Go.Proofs.YtmomildkopainaaDoor
