/-
  WALKS: mark.run.
-/
import Derived.Test.YtekihjffefokjaaDoorMkI
namespace Go.Proofs.YtekihjffefokjaaDoor
open Go.RowKit Go.Shelf
attribute [local go_sem] Oper.semAt_some

def sgns : Bs := [60, 124, 61, 62]
/-- the run of a line over the first so many signs -/
def sgRun (a : Nat) (x : Bs) (k : Nat) : Nat := (sgns.take k).foldl (fun m c => max m (lead c x)) a
theorem sgRun_all (a : Nat) (x : Bs) : sgRun a x 4 = max a (runL x) := by
  show max (max (max (max a (lead 60 x)) (lead 124 x)) (lead 61 x)) (lead 62 x) = max a (max (lead 60 x) (max (lead 124 x) (max (lead 61 x) (lead 62 x))))
  omega
theorem sgRun_le (a : Nat) (x : Bs) (k : Nat) : sgRun a x k ≤ max a x.length := by
  unfold sgRun
  generalize sgns.take k = l
  induction l generalizing a with
  | nil => exact Nat.le_max_left _ _
  | cons c l ih =>
    have h1 := ih (max a (lead c x))
    have h2 := lead_le c x
    rw [List.foldl_cons]
    omega
/-- one sign: how it is read, and made a text -/
theorem sg_step (k : Nat) (h : k < 4) : ∃ c : UInt8, c.toNat < 128 ∧ Utf8.decode (st sgns) k = (c.toNat, 1) ∧ (∀ W : World, (convert 21 9 (.int .i32 (c.toNat : Int))).run Tryd.prog W = .ok (.string ⟨#[c]⟩) W) ∧ ∀ a x, sgRun a x (k + 1) = max (sgRun a x k) (lead c x) := by
  match k, h with
  | 0, _ => exact ⟨60, by decide, by kernel_rfl, fun W => by go_simp; rfl, fun a x => rfl⟩
  | 1, _ => exact ⟨124, by decide, by kernel_rfl, fun W => by go_simp; rfl, fun a x => rfl⟩
  | 2, _ => exact ⟨61, by decide, by kernel_rfl, fun W => by go_simp; rfl, fun a x => rfl⟩
  | 3, _ => exact ⟨62, by decide, by kernel_rfl, fun W => by go_simp; rfl, fun a x => rfl⟩
theorem gb_alloc {a w : World} {row : Option Nat} (h : a.grownBy w row) (o : Obj) : a.grownBy (w.alloc o) row :=
  ⟨h.os, h.tape, h.output, Nat.le_trans h.size (by simp), fun i hi hne => (Below.heap_alloc w o i (Nat.lt_of_lt_of_le hi h.size)).trans (h.block i hi hne)⟩
theorem gb_set {a w : World} {g : Nat} (h : a.grownBy w (some g)) (u : Value) : a.grownBy (w.setCell ⟨g, 0, none⟩ u) (some g) :=
  ⟨h.os, h.tape, h.output, by simpa [World.setCell] using h.size, fun i hi hne => (Below.heap_setCell w ⟨g, 0, none⟩ u i (fun e => hne (by rw [e]))).trans (h.block i hi hne)⟩
theorem gb_iter {a w : World} {row : Option Nat} (h : a.grownBy w row) {k : Nat} (hk : a.heap.size ≤ k) (s : ByteArray) (p : Nat) : a.grownBy (w.iterAt k s p) row :=
  ⟨h.os, h.tape, h.output, by rw [Lib.iterAt_size]; exact h.size, fun i hi hne => (Lib.iterAt_other w k i s p (by omega)).trans (h.block i hi hne)⟩
theorem gb_keeps {a w : World} {g B : Nat} {t : TypeId} {cs : Array Value} {fz : Nat × Nat} (h : a.grownBy w (some g)) (hg : a.heap[g]? = some (.cells cs t fz)) : KeepsFrom B a w :=
  ⟨h.size, fun k o _ hk ho => (h.block k (Array.getElem?_eq_some_iff.1 hk).1 (fun e => by cases e; rw [hg] at hk; cases hk; cases ho)).trans hk⟩
theorem gb_below {a w : World} {g n : Nat} (h : a.grownBy w (some g)) (hg : n ≤ g) (hn : n ≤ a.heap.size) : Below n a w :=
  ⟨h.os, h.tape, h.output, h.size, fun i hi => h.block i (by omega) (fun e => by cases e; omega)⟩
theorem lines_short (s : Bs) {pre : List Bs} {x : Bs} (h : pre ++ [x] <+: linesL s) : x.length ≤ s.length := by
  have hm : x ∈ linesL s := h.subset (by simp)
  exact linesF_sizes _ _ x hm
theorem maxRun_le : ∀ (l : List Bs) (a N : Nat), a ≤ N → (∀ x ∈ l, x.length ≤ N) → maxRun a l ≤ N
  | [], a, N, h, _ => h
  | x :: l, a, N, h, hx => by
    have h1 := runL_le x
    have h2 := hx x (List.mem_cons_self ..)
    exact maxRun_le l (max a (runL x)) N (by omega) (fun y hy => hx y (List.mem_cons_of_mem _ hy))
theorem lines_run_le (s : Bs) {pre : List Bs} (h : pre <+: linesL s) : maxRun 0 pre ≤ s.length :=
  maxRun_le pre 0 _ (Nat.zero_le _) (fun x hx => linesF_sizes _ _ x (h.subset hx))

set_option maxRecDepth 100000 in
set_option maxHeartbeats 4000000 in
theorem run_any (s : Bs) (w : World) (hm : mx w) (hs : s.length < 4294967281) :
    Calls Tryd.prog 60 #[.string (st s)] w fun e w' => e = .returned (.int .i64 (runM s : Int)) ∧ Below w.heap.size w w' := by
  have HM := hq hm
  have HR := hq (run_lines s)
  have hml := mx_lt hm
  clear hm
  refine (callsIn_wide (n := 10)).1 ?_
  refine callsIn_of_wp_marks Tryd.func60 rfl trivial ?_ rfl
  simp only [Tryd.ntmps60, List.size_toArray, List.length_cons, List.length_nil, Nat.reduceAdd, Nat.reduceSub, Array.replicate_succ, Array.replicate_zero, List.push_toArray, List.append_toArray, List.nil_append, List.cons_append]
  gi_wp2_with (refine ⟨trivial, ?_⟩; gi_at_call 81; refine (callsIn_wide.2 (lines_any (st s) _)).mono ?_; rintro e w' ⟨rfl, rfl⟩)
  have b1 := (Boxed.new w 3 (.int .i64 0)).alloc (.cells #[.string (st s)] 9)
  have b2 := Boxed.new (w.alloc (.cells #[.int .i64 0] 3)) 9 (.string (st s))
  have hB0 := (below_alloc w (.cells #[.int .i64 0] 3)).alloc (by simp) (.cells #[.string (st s)] 9)
  have hsz : ((w.alloc (.cells #[.int .i64 0] 3)).alloc (.cells #[.string (st s)] 9)).heap.size = w.heap.size + 2 := by simp
  simp only [World.size_alloc] at b2
  obtain ⟨W0, hW0⟩ : ∃ W0, (w.alloc (.cells #[.int .i64 0] 3)).alloc (.cells #[.string (st s)] 9) = W0 := ⟨_, rfl⟩
  rw [hW0] at b1 b2 hB0 hsz ⊢
  clear hW0
  generalize hn₀ : w.heap.size = n₀ at *
  refine range_box rfl (by omega) (gf := 101) (lb := #[.pointer (some ⟨n₀ + 1, 0, none⟩)]) rfl trivial (enters_of Tryd.func101 (by kernel_rfl) rfl)
    (lines_gives (n₀ + 1) n₀ s hs W0 b2 (fun A hA => mx_below HM.o (hB0.trans hA) hml) (by omega) (by omega)) (by omega)
    (fun h k => ⟨h.1.trans k.1, k.2.trans h.2⟩)
    (fun W l o o' hl ho h1 h2 => ⟨belowK_b (w := W0) (by omega) W l o o' hl ho h1 h2, World.putObj_heap_other (by omega)⟩)
    (Below.refl _ _) (fun _ => rfl)
    (fun pre W => Boxed W n₀ 3 (.int .i64 (maxRun 0 pre : Int)) ∧ Below n₀ w W)
    ?own ?free ⟨b1, hB0⟩ (fun x => { tmps := #[.string (st s), undef, .int .i64 0, .pointer (some ⟨n₀, 0, none⟩), .string (st x), undef, undef, undef, .string (st s), .func (.func 101) #[] #[.pointer (some ⟨n₀ + 1, 0, none⟩)], .string (st x), undef, undef, undef, undef, undef, undef, undef, undef, undef, undef, undef, undef, undef, undef, undef, undef], defers := [] }) ?assign ?body ?done
  case own =>
    exact OwnFrom.and (Own.from (boxed_own _ _ (fun pre => Value.int .i64 (maxRun 0 pre : Int))) _) (ownFrom_below (by omega) (by omega))
  case free =>
    rintro pre A u ⟨h1, h2⟩
    exact ⟨h1.other (by omega) u, h2.setCell (p := ⟨n₀ + 1, 0, none⟩) (by simp only; omega) u⟩
  case assign =>
    intro l x W K hK
    gi_wp2
    exact hK
  case body =>
    rintro l pre x W hl hlt ⟨hb, hB⟩ hpre
    have hWs : n₀ ≤ W.heap.size := by have := hB.size; omega
    have hxl := lines_short s hpre
    have hal := lines_run_le s ((List.prefix_append pre [x]).trans hpre)
    have hbk := hb.lt
    have HBX := hq hb
    have HBW := hq hB
    have HIT := hq (World.iter_heap W (st sgns) 0)
    have HG0 := hq (gb_alloc (show W.grownBy W (some n₀) from ⟨rfl, rfl, rfl, Nat.le_refl _, fun _ _ _ => rfl⟩) (.stringIter (st sgns) 0))
    have HB0 := hq (hb.alloc (.stringIter (st sgns) 0))
    have HMR : Hq (maxRun 0 (pre ++ [x]) = sgRun (maxRun 0 pre) x 4) := hq (by rw [maxRun_snoc, sgRun_all])
    generalize maxRun 0 pre = a at *
    clear hpre hb hB
    gi_wp2
    gi_loopw [7] (fun _ wr => ∃ pos : Nat, pos ≤ 4 ∧ wr.heap[W.heap.size]? = some (.stringIter (st sgns) pos) ∧ Boxed wr n₀ 3 (.int .i64 (sgRun a x pos : Int)) ∧ Hq (W.grownBy wr (some n₀))) (fun _ wr => 4 - wr.iterPos W.heap.size)
    case atStart => exact ⟨0, by omega, HIT.o, HB0.o, HG0⟩
    case round =>
      obtain ⟨pos, hp4, hit, hbox, hg⟩ := hrel
      clear HIT HG0 HB0
      have hm0 : Hq (wr.iterPos W.heap.size = pos) := hq (by simp only [World.iterPos, hit])
      by_cases hp : pos < 4
      · obtain ⟨c, hc1, hc2, hc3, hc4⟩ := sg_step pos hp
        have hnx : ∀ ty, (Instr.next (.pointer (some ⟨W.heap.size, 0, none⟩)) true ty).run Tryd.prog wr = _ := fun ty => Lib.run_next_any_at wr W.heap.size (st sgns) pos ty hit hp
        have hit2 := Lib.iterAt_heap wr W.heap.size (st sgns) pos (pos + 1) hit
        have hbox2 : Boxed (wr.iterAt W.heap.size (st sgns) (pos + 1)) n₀ 3 (.int .i64 (sgRun a x pos : Int)) := (Lib.iterAt_other wr W.heap.size n₀ (st sgns) (pos + 1) (by omega)).trans hbox
        have hg2 := gb_iter hg.o (Nat.le_refl _) (st sgns) (pos + 1)
        rw [hc2] at hnx
        have HT := hq (Tryd.strings_TrimLeft_one (st x) c hc1 (wr.iterAt W.heap.size (st sgns) (pos + 1)))
        have htl := trimL_drop c x
        have hle := lead_le c x
        have HSG := hq (hc4 a x)
        have hsl := sgRun_le a x pos
        rw [st_list] at HT
        have hz1 : (st x).size = x.length := st_size x
        have hz2 : (st (Lib.trimLeftB x c)).size = (Lib.trimLeftB x c).length := st_size _
        have HZ1 := hq hz1
        have HZ2 := hq hz2
        have HIT2 := hq hit2
        have HBX2 := hq hbox2
        have HG2 := hq hg2
        have hcc := hbox2.cell
        have hcf := hbox2.frozen
        clear hit hbox hg hit2 hbox2 hg2 hc2 hc4 hz1 hz2
        generalize wr.iterAt W.heap.size (st sgns) (pos + 1) = wi at *
        gi_wp2_with (refine ⟨trivial, ?_⟩; gi_at_call 82; refine (CallsIn.inRound l (callsIn_wide.2 HT.o)).mono ?_; rintro e' w2 ⟨rfl, rfl⟩)
        go_roundw
        case rel =>
          refine ⟨pos + 1, by omega, (Below.heap_setCell w2 ⟨n₀, 0, none⟩ _ W.heap.size (by simp only; omega)).trans HIT2.o, ?_, hq (gb_set HG2.o _)⟩
          have hv : Value.int .i64 (sgRun a x (pos + 1) : Int) = Value.int .i64 (max (sgRun a x pos : Int) ((x.length : Int) - ((Lib.trimLeftB x c).length : Int))) := int_eq (by rw [HSG.o]; omega)
          rw [hv]
          exact HBX2.o.set _
        case measure =>
          have h4 := (Below.heap_setCell w2 ⟨n₀, 0, none⟩ (.int .i64 (max (sgRun a x pos : Int) ((x.length : Int) - ((Lib.trimLeftB x c).length : Int)))) W.heap.size (by simp only; omega)).trans HIT2.o
          rw [hm0.o]
          simp only [World.iterPos, h4]
          omega
      · obtain rfl : pos = 4 := by omega
        have hnx : ∀ ty, (Instr.next (.pointer (some ⟨W.heap.size, 0, none⟩)) true ty).run Tryd.prog wr = _ := fun ty => Lib.run_next_end_at wr W.heap.size (st sgns) 4 ty hit (by decide)
        have hgw := gb_below hg.o (Nat.le_refl n₀) hWs
        gi_wp2
        refine ⟨gb_keeps hg.o HBX.o, ⟨hgw, hg.o.block (n₀ + 1) (by omega) (fun e => by cases e)⟩, ?_, HBW.o.trans hgw⟩
        rw [HMR.o]
        exact hbox
  case done =>
    rintro D W hD ⟨hb, hB⟩ hK
    have hc := hb.cell
    gi_wp2
    refine ⟨by simp, .inl ⟨_, _, rfl, run_takeDeferred hK, ?_⟩⟩
    refine ⟨_, results_tmp rfl _ _ _, ?_, ?_⟩
    · rw [← HR.o]; rfl
    · rw [hn₀]
      exact hB.trans (belowK_b (w := w) (by omega) W D _ _ (by omega) hK rfl rfl)
end Go.Proofs.YtekihjffefokjaaDoor
