/-
  WALKS: runes.Lines.
-/
import Derived.Test.YtmecolgceeegpaaDoorRunesNext
namespace Go.Proofs.YtmecolgceeegpaaDoor
open Go.RowKit

/-- the cells of spans -/
def spanCells (l : List (Nat × Nat)) : List Value := l.flatMap fun x => [.int .i64 (x.1 : Int), .int .i64 (x.2 : Int)]
theorem spanCells_len (l : List (Nat × Nat)) : (spanCells l).length = l.length * 2 := by
  induction l with
  | nil => rfl
  | cons x l ih => simp only [spanCells, List.flatMap_cons, List.length_append, List.length_cons, List.length_nil] at *; omega
theorem spanCells_snoc (l : List (Nat × Nat)) (f t : Nat) : spanCells (l ++ [(f, t)]) = spanCells l ++ [.int .i64 f, .int .i64 t] := by simp [spanCells]
theorem spanCells_at (l : List (Nat × Nat)) : ∀ (i : Nat) (f t : Nat), l[i]? = some (f, t) → (spanCells l)[2 * i]? = some (.int .i64 f) ∧ (spanCells l)[2 * i + 1]? = some (.int .i64 t) := by
  induction l with
  | nil => intro i f t h; simp at h
  | cons x l ih =>
    intro i f t h
    cases i with
    | zero => simp at h; subst h; simp [spanCells]
    | succ i =>
      simp only [List.getElem?_cons_succ] at h
      have := ih i f t h
      rw [show 2 * (i + 1) = 2 * i + 1 + 1 by omega]
      simpa [spanCells] using this

theorem infoSpan : (Tryd.prog.info? 31).map (fun i => (i.zero, i.size, i.bytes)) = some (some (.agg #[.int .i64 0, .int .i64 0]), 2, 16) := by kernel_rfl

theorem lnsTo_len_le (s : ByteArray) (p : Nat) : (lnsTo s p).length ≤ p := by rw [lnsTo_len]; exact lfs_le s p

theorem own_kept {w w' : World} {B : Nat} {k : Nat} {o : Obj} {v : Value} {e size n : Nat} {xs : List Value} (h : w.heap[k]? = some o) (hown : w.ownsRow B e size v n xs) (hk : k < B) (hg : w.grownBy w' v.ownBlock) : w'.heap[k]? = some o := by
  rw [hg.block k (Array.getElem?_eq_some_iff.1 h).1 (fun e => by have := (hown.lt k e.symm).1; omega)]
  exact h
theorem own_other {w : World} {B B' : Nat} {v : Value} {e size n : Nat} {xs : List Value} (hown : w.ownsRow B' e size v n xs) (hb : B ≤ B') : ∀ k, v.ownBlock = some k → B ≤ k :=
  fun k hk => by have := (hown.lt k hk).1; omega

theorem iter_new_cell (w : World) (c : Array Value) (T : TypeId) (s : ByteArray) (pos i : Nat) : ((w.alloc (.cells c T)).iter s pos).cell? ⟨w.heap.size, i, none⟩ = c[i]? := by
  unfold World.iter
  rw [World.cell?_alloc_lt _ _ _ (by rw [World.size_alloc]; simp), World.cell?_alloc_new]
theorem iterAt_cell (w : World) (k : Nat) (s : ByteArray) (pos : Nat) {b o : Nat} (h : b ≠ k) : (w.iterAt k s pos).cell? ⟨b, o, none⟩ = w.cell? ⟨b, o, none⟩ :=
  World.cell?_of_block (a := ⟨b, o, none⟩) (Lib.iterAt_other w k b s pos h)
theorem own_iter {w : World} {base e size n k : Nat} {v : Value} {xs : List Value} (h : w.ownsRow base e size v n xs) (s : ByteArray) (pos : Nat) (hk : k < base) : (w.iterAt k s pos).ownsRow base e size v n xs := by
  obtain ⟨h1, h2⟩ := h
  refine ⟨h1, ?_⟩
  rcases h2 with h2 | ⟨g, cap, cur, hv, hg, hh, r⟩
  · exact .inl h2
  · exact .inr ⟨g, cap, cur, hv, hg, (Lib.iterAt_other w k g s pos (by omega)).trans hh, r⟩

theorem World.alloc_heap_old (w : World) (o : Obj) (k : Nat) {x : Obj} (h : w.heap[k]? = some x) : (w.alloc o).heap[k]? = some x := by
  rw [Below.heap_alloc w o k (Array.getElem?_eq_some_iff.1 h).1]; exact h
theorem own_base {w : World} {B B' e size n : Nat} {v : Value} {xs : List Value} (h : w.ownsRow B e size v n xs) (hB : B' ≤ B) : w.ownsRow B' e size v n xs := by
  obtain ⟨h1, h2⟩ := h
  refine ⟨h1, ?_⟩
  rcases h2 with h2 | ⟨g, cap, cur, hv, hg, r⟩
  · exact .inl h2
  · exact .inr ⟨g, cap, cur, hv, by omega, r⟩
theorem new_cells (w : World) (l : List Value) (T : TypeId) : ∀ j u, l[j]? = some u → (w.alloc (.cells l.toArray T)).cell? ((⟨w.heap.size, 0, none⟩ : Addr).add j) = some u := by
  intro j u h
  rw [show (⟨w.heap.size, 0, none⟩ : Addr).add j = ⟨w.heap.size, j, none⟩ by simp [Addr.add]; exact fun h => h.symm, World.cell?_alloc_new]
  simpa using h
theorem ints_one (l : List Int) : ∀ u ∈ l.map (Value.int .i64), u.oneCell' = true := by
  intro u hu
  obtain ⟨x, _, rfl⟩ := List.mem_map.1 hu
  rfl
theorem two_one (a b : Int) : ∀ u ∈ [Value.int .i64 a, Value.int .i64 b], u.oneCell' = true := ints_one [a, b]
theorem span_room {n : Nat} (h : n ≤ 1099511627776) : n + 1 ≤ maxLen ∧ (n + 1) * 16 ≤ 140737488355328 := by unfold maxLen; omega

set_option maxHeartbeats 400000 in
set_option maxRecDepth 1000000 in
theorem lines_any (s : ByteArray) (w : World) (hs : s.size ≤ 1099511627776) :
    Calls Tryd.prog 13 #[.string s] w fun e w' => ∃ v, e = .returned v ∧ w'.ownsRow w.heap.size 31 2 v (lns s).length (spanCells (lns s)) ∧ Below w.heap.size w w' := by
  obtain ⟨i0, hi, hz0, hz1, hz2⟩ := info_parts infoSpan
  go_enter Tryd.func13, Tryd.ntmps13
  go_wp2
  go_loopw [3, 4] (fun v fr wr => ∃ pos : Nat, pos ≤ s.size ∧ fr = .int .i64 (lst s pos) ∧ wr.heap[w.heap.size]? = some (.stringIter s pos) ∧ wr.ownsRow (w.heap.size + 1) 31 2 v (lnsTo s pos).length (spanCells (lnsTo s pos)) ∧ Below w.heap.size w wr)
    (fun _ _ wr => s.size - wr.iterPos w.heap.size)
  case atStart => exact ⟨0, Nat.zero_le _, rfl, World.iter_heap w s 0, World.ownsRow_nil _ _ _ _, (Below.refl _ _).alloc (Nat.le_refl _) _⟩
  case round =>
    obtain ⟨pos, hpos, rfl, hit, hown, hb⟩ := hrel
    have hlt : w.heap.size < wr.heap.size := (Array.getElem?_eq_some_iff.1 hit).1
    have hll := lst_le s pos
    have hnl := lnsTo_len_le s pos
    by_cases hp : pos < s.size
    · have hnx : ∀ ty, (Instr.next (.pointer (some ⟨w.heap.size, 0, none⟩)) true ty).run Tryd.prog wr = _ := fun ty => Lib.run_next_any_at wr w.heap.size s pos ty hit hp
      have hwp := wd_pos s pos
      have hwl := wd_le s pos hp
      have hit2 := Lib.iterAt_heap wr w.heap.size s pos (pos + (Utf8.decode s pos).2) hit
      have hb2 := Lib.below_iterAt hb (k := w.heap.size) (Nat.le_refl _) s (pos + (Utf8.decode s pos).2)
      have hown2 := own_iter hown s (pos + (Utf8.decode s pos).2) (k := w.heap.size) (by omega)
      have hdl := decode_le s pos
      have HSz2 := Lib.hid (Lib.iterAt_size wr w.heap.size s (pos + (Utf8.decode s pos).2))
      by_cases hc : (Utf8.decode s pos).1 = 10
      · have HC := Lib.hid ((dec_is s pos 10 (by omega)).1 hc)
        have hcb : (((Utf8.decode s pos).1 : Int) == 10) = true := by simp [hc]
        clear hc
        have hr := span_room (by omega : (lnsTo s pos).length ≤ 1099511627776)
        obtain ⟨hr1, hr2⟩ := hr
        have hbs : w.heap.size + 1 ≤ (wr.iterAt w.heap.size s (pos + (Utf8.decode s pos).2)).heap.size := by rw [HSz2.out]; omega
        go_wp2_with (at_builtin; refine wpList_append_own _ rfl _ _ 27 rfl (w.heap.size + 1) 31 i0 (.agg #[.int .i64 0, .int .i64 0]) 2 16 Tryd.underlying27 hi hz0 hz1 hz2 rfl (by decide) _ _ _ rfl (hown2.alloc _) ⟨(wr.iterAt w.heap.size s (pos + (Utf8.decode s pos).2)).heap.size, 0, none⟩ 1 1 [.int .i64 (lst s pos), .int .i64 (pos + 1)] rfl rfl (new_cells _ [.int .i64 (lst s pos), .int .i64 (pos + 1)] _) (two_one _ _) hr1 hr2 (by rw [World.size_alloc]; omega) ?_)
        intro v' w1 hown' hgrow _
        have hit3 := own_kept (World.alloc_heap_old _ _ _ hit2) (hown2.alloc _) (by omega) hgrow
        have hb3 := (hb2.alloc (by omega) _).grown hgrow (by rw [World.size_alloc]; omega) (own_other hown2 (by omega))
        go_wp2
        go_roundw
        case rel =>
          refine ⟨pos + wd s pos, hwl, ?_, hit3, ?_, hb3⟩
          · rw [lst_rune, if_pos HC.out]; rfl
          · rw [lnsTo_rune, if_pos HC.out, spanCells_snoc, List.length_append]; exact hown'
        case measure =>
          simp only [World.iterPos, hit3, hit]; unfold wd at hwp; omega
      · have HC := Lib.hid (fun h => hc ((dec_is s pos 10 (by omega)).2 h))
        have hcb : (((Utf8.decode s pos).1 : Int) == 10) = false := by simp; omega
        clear hc
        go_wp2
        go_roundw
        case rel => 
          refine ⟨pos + wd s pos, hwl, ?_, hit2, ?_, hb2⟩
          · rw [lst_rune, if_neg HC.out]
          · rw [lnsTo_rune, if_neg HC.out]; exact hown2
        case measure => 
          simp only [World.iterPos, hit2, hit]; unfold wd at hwp; omega
    · have hnx : ∀ ty, (Instr.next (.pointer (some ⟨w.heap.size, 0, none⟩)) true ty).run Tryd.prog wr = _ := fun ty => Lib.run_next_end_at wr w.heap.size s pos ty hit hp
      obtain rfl : pos = s.size := by omega
      have hr := span_room (by omega : (lnsTo s s.size).length ≤ 1099511627776)
      obtain ⟨hr1, hr2⟩ := hr
      go_wp2_with (at_builtin; refine wpList_append_own _ rfl _ _ 27 rfl (w.heap.size + 1) 31 i0 (.agg #[.int .i64 0, .int .i64 0]) 2 16 Tryd.underlying27 hi hz0 hz1 hz2 rfl (by decide) _ _ _ rfl (hown.alloc _) ⟨wr.heap.size, 0, none⟩ 1 1 [.int .i64 (lst s s.size), .int .i64 s.size] rfl rfl (new_cells _ [.int .i64 (lst s s.size), .int .i64 s.size] _) (two_one _ _) hr1 hr2 (by rw [World.size_alloc]; omega) ?_)
      intro v' w1 hown' hgrow _
      go_wp2
      go_ret
      have hb3 := (hb.alloc (by omega) _).grown hgrow (by rw [World.size_alloc]; omega) (own_other hown (by omega))
      refine ⟨v', rfl, ?_, hb3⟩
      unfold lns
      rw [spanCells_snoc, List.length_append]
      exact own_base hown' (by omega)
end Go.Proofs.YtmecolgceeegpaaDoor
