/-
  WALKS: json's reader: fail, next, take, step, leaf.
  WALKS: json's reader: step, leaf; what a value, a kid, a list leave.
-/
import Derived.Test.YtleabaldjlbnlaaDoorJsA
import Derived.Deep.LoopGhost
namespace Go.Proofs.YtleabaldjlbnlaaDoor
open Go.RowKit

theorem Rd.cells {w0 W : World} {g : Nat} {s : ByteArray} {r : RS} (h : Rd w0 g s r W) : W.cell? ⟨g, 0, none⟩ = some (.string s) ∧ W.cell? ⟨g, 1, none⟩ = some (.slice r.o r.ts.length r.cap) ∧ W.cell? ⟨g, 2, none⟩ = some r.vN ∧ W.cell? ⟨g, 3, none⟩ = some (.int .i64 r.wh) ∧ W.cell? ⟨g, 4, none⟩ = some (.int .i64 r.er) ∧ ∀ i, W.frozen? ⟨g, i, none⟩ = false :=
  ⟨h.blk.at_ 0, h.blk.at_ 1, h.blk.at_ 2, h.blk.at_ 3, h.blk.at_ 4, h.blk.free⟩
theorem cell_blk' {w : World} {a : Addr} {v : Value} (h : w.cell? a = some v) : a.block < w.heap.size := World.block_lt_of_cell? w a h
/-- a block of three cells is written whole -/
def set3 (w : World) (b : Nat) (u0 u1 u2 : Value) : World := ((w.setCell ⟨b, 0, none⟩ u0).setCell ⟨b, 1, none⟩ u1).setCell ⟨b, 2, none⟩ u2
theorem whole_set3 {w : World} {b : Nat} {T : TypeId} {x y z : Value} (h : Whole w b T #[x, y, z]) (u0 u1 u2 : Value) : Whole (set3 w b u0 u1 u2) b T #[u0, u1, u2] := ((h.put 0 u0).put 1 u1).put 2 u2
/-- a block that is none of the reader's is written -/
theorem Rd.far {w0 W : World} {g : Nat} {s : ByteArray} {r : RS} (h : Rd w0 g s r W) {p : Addr} (hp : ¬ r.own g p.block) (hb : w0.heap.size ≤ p.block) (u : Value) : Rd w0 g s r (W.setCell p u) := by
  have hg := set_grown W p u
  refine ⟨h.blk.far (fun e => hp (.inl e.symm)) u, h.tk, h.tl, h.tm, ?_, ?_, ?_, h.ak, h.ap, h.bl.setCell hb u, h.gl, h.n4, h.kl⟩
  · exact row_kept h.nd hg fun b e e2 => by cases e; exact hp (.inr (.inl e2))
  · exact fun i hi => row_kept (h.kr i hi) hg fun b e e2 => by cases e; exact hp (.inr (.inr ⟨i, hi, .inl e2⟩))
  · exact fun i hi => row_kept (h.pr i hi) hg fun b e e2 => by cases e; exact hp (.inr (.inr ⟨i, hi, .inr e2⟩))
theorem Fr.new {o o' : Nat → Prop} {W W' : World} (h : Fr o o' W W') {p : Addr} (hp : W.heap.size ≤ p.block) (u : Value) : Fr o o' W (W'.setCell p u) :=
  ⟨h.os, h.tape, h.output, Nat.le_trans h.size (by simp [World.setCell]), fun k hk hn => (Below.heap_setCell _ _ _ _ (by omega)).trans (h.block k hk hn), h.own⟩
theorem Rd.far3 {w0 W : World} {g : Nat} {s : ByteArray} {r : RS} (h : Rd w0 g s r W) {b : Nat} (hp : ¬ r.own g b) (hb : w0.heap.size ≤ b) (u0 u1 u2 : Value) : Rd w0 g s r (set3 W b u0 u1 u2) := ((h.far (p := ⟨b, 0, none⟩) hp hb u0).far (p := ⟨b, 1, none⟩) hp hb u1).far (p := ⟨b, 2, none⟩) hp hb u2
theorem Fr.new3 {o o' : Nat → Prop} {W W' : World} (h : Fr o o' W W') {b : Nat} (hp : W.heap.size ≤ b) (u0 u1 u2 : Value) : Fr o o' W (set3 W' b u0 u1 u2) := ((h.new (p := ⟨b, 0, none⟩) hp u0).new (p := ⟨b, 1, none⟩) hp u1).new (p := ⟨b, 2, none⟩) hp u2
def RS.at (r : RS) (ts : List Tok) (o : Option Addr) (cap : Nat) : RS := { r with ts := ts, o := o, cap := cap }
def RS.bad (r : RS) (wh er : Int) : RS := { r with wh := wh, er := er }
/-- the reader goes behind its first token: the row's rest, as reslicing leaves it -/
theorem Rd.tail {w0 W : World} {g : Nat} {s : ByteArray} {r : RS} {t : Tok} {l : List Tok} {o : Option Addr} {cap : Nat} (h : Rd w0 g s (r.at (t :: l) o cap) W) :
    ∃ b f A, o = some ⟨b, f, none⟩ ∧ (if cap = 1 then some (⟨b, f, none⟩ : Addr) else some ⟨b, f + 3, none⟩) = A ∧ l.length + 1 ≤ cap ∧ Rd w0 g s (r.at l A (cap - 1)) (W.setCell ⟨g, 1, none⟩ (.slice A l.length (cap - 1))) := by
  obtain ⟨b, f, ho, _⟩ := h.tk.1 0 (by simp [RS.at])
  simp only [RS.at] at ho
  subst ho
  have hcap := h.tl
  have hcm := h.tm
  simp only [RS.at, List.length_cons] at hcap hcm
  refine ⟨b, f, _, rfl, rfl, hcap, h.next (l := l) (cap' := cap - 1) (by omega) (by unfold maxLen at *; omega) ⟨?_, fun t ht => h.tk.2 t (List.mem_cons_of_mem _ ht)⟩⟩
  split
  · rename_i h1
    have : l = [] := List.eq_nil_of_length_eq_zero (by omega)
    subst this
    exact fun i hi => absurd hi (Nat.not_lt_zero _)
  · exact TokIn.tail h.tk.1
theorem nbl_cons (t : Tok) (l : List Tok) : nbl (t :: l) = if t.1 = 1 then nbl l else t :: nbl l := by
  unfold nbl
  rw [List.filter_cons]
  by_cases h : t.1 = 1
  · rw [if_pos h, if_neg (by simp [h])]
  · rw [if_neg h, if_pos (by simp [h])]
/-- what next answers -/
def nextV : List Tok → Value
  | [] => .tuple #[.agg #[.int .i64 0, .int .i64 0, .int .i64 0], .bool false]
  | t :: _ => .tuple #[.agg #[.int .i64 (t.1 : Int), .int .i64 (t.2.1 : Int), .int .i64 (t.2.2 : Int)], .bool true]
/-- the reader stands at a token that is no blank, or at the end -/
def Stands (ts : List Tok) : Prop := ts = [] ∨ ∃ t l, ts = t :: l ∧ t.1 ≠ 1
def NextPost (w0 : World) (g : Nat) (s : ByteArray) (r : RS) (W : World) (e : Ending) (W' : World) : Prop :=
  ∃ ts o cap, e = .returned (nextV ts) ∧ Rd w0 g s (r.at ts o cap) W' ∧ Fr (r.own g) (r.own g) W W' ∧ nbl ts = nbl r.ts ∧ Stands ts

set_option maxHeartbeats 1000000 in
set_option maxRecDepth 1000000 in
theorem jfail_any {w0 W : World} {g : Nat} {s : ByteArray} {r : RS} (h : Rd w0 g s r W) (er wh : Int) :
    Calls Tryd.prog 32 #[.pointer (some ⟨g, 0, none⟩), .int .i64 er, .int .i64 wh] W fun e W' => e = .returned (.bool false) ∧ Rd w0 g s (r.bad wh er) W' ∧ Fr (r.own g) (r.own g) W W' := by
  have HR := hq (h.fail wh er)
  have HF := hq (Fr.fail r g W wh er)
  obtain ⟨c0, c1, c2, c3, c4, cf⟩ := h.cells
  have c3' : (W.setCell ⟨g, 4, none⟩ (.int .i64 er)).cell? ⟨g, 3, none⟩ = some (.int .i64 r.wh) := (h.blk.put 4 (.int .i64 er)).at_ 3
  have cf' : ∀ i, (W.setCell ⟨g, 4, none⟩ (.int .i64 er)).frozen? ⟨g, i, none⟩ = false := (h.blk.put 4 (.int .i64 er)).free
  clear h
  go_enter Tryd.func32, Tryd.ntmps32
  go_wp2_with fail
  go_ret
  exact ⟨rfl, HR.o, HF.o⟩

set_option maxHeartbeats 1000000 in
set_option maxRecDepth 1000000 in
theorem jnext_any {w0 W : World} {g : Nat} {s : ByteArray} {r : RS} (h : Rd w0 g s r W) :
    Calls Tryd.prog 23 #[.pointer (some ⟨g, 0, none⟩)] W (NextPost w0 g s r W) := by
  have HR := hq h
  have HP : Hq (∀ ts o cap W', Rd w0 g s (r.at ts o cap) W' → Fr (r.own g) (r.own g) W W' → nbl ts = nbl r.ts → Stands ts → NextPost w0 g s r W (.returned (nextV ts)) W') := hq (fun ts o cap W' h1 h2 h3 h4 => ⟨ts, o, cap, rfl, h1, h2, h3, h4⟩)
  have hgl := h.blk.lt
  clear h
  generalize hPP : NextPost w0 g s r W = PP at *
  clear hPP
  go_enter Tryd.func23, Tryd.ntmps23
  go_wp2_with fail
  go_loopg [] r.ts.length (fun k wr => ∃ ts o cap, ts.length ≤ k ∧ Hq (Rd w0 g s (r.at ts o cap) wr ∧ Fr (r.own g) (r.own g) W wr ∧ nbl ts = nbl r.ts ∧ Whole wr W.heap.size 51 #[.int .i64 0, .int .i64 0, .int .i64 0]))
  case atStart => exact ⟨r.ts, r.o, r.cap, Nat.le_refl _, hq ⟨HR.o.grow (below_alloc W _), Fr.of_below _ (below_alloc W _), rfl, Whole.made W _ _⟩⟩
  case round =>
    obtain ⟨ts, o, cap, hk, hR⟩ := hrel
    obtain ⟨c0, c1, _, _, _, cf⟩ := hR.o.1.cells
    simp only [RS.at] at c1
    have cZ0 := hR.o.2.2.2.at_ 0
    have cZ1 := hR.o.2.2.2.at_ 1
    have cZ2 := hR.o.2.2.2.at_ 2
    have hnz := hR.o.2.2.2.free
    cases ts with
    | nil =>
      have hno : ¬ r.own g W.heap.size := fun ho => by have := (HR.o.own_lt _ ho).2; omega
      have hwl : w0.heap.size ≤ W.heap.size := HR.o.bl.size
      have HS := hq (whole_set3 hR.o.2.2.2 (.int .i64 0) (.int .i64 0) (.int .i64 0))
      have HV := hq (HP.o [] o cap _ (hR.o.1.far3 hno hwl (.int .i64 0) (.int .i64 0) (.int .i64 0)) (hR.o.2.1.new3 (Nat.le_refl _) _ _ _) hR.o.2.2.1 (.inl rfl))
      have z0 := HS.o.at_ 0
      have z1 := HS.o.at_ 1
      have z2 := HS.o.at_ 2
      unfold set3 at z0 z1 z2 HV
      have HZ := hq (And.intro z0 (And.intro z1 z2))
      clear HR z0 z1 z2 HS
      go_wp2_with fail
      refine bodyPost_ret (v := nextV []) ?_ rfl HV.o
      obtain ⟨z0, z1, z2⟩ := HZ.o
      simp [results, Tryd.results23, go_sem, z0, z1, z2, nextV]
    | cons t l =>
      obtain ⟨b, f, ho, t0, t1, t2⟩ := hR.o.1.tk.1 0 (by simp [RS.at])
      simp only [RS.at, List.getElem_cons_zero] at ho t0 t1 t2
      subst ho
      have hbw := hR.o.1.bl
      replace t0 := (hbw.cell (cell_blk' t0)).trans t0
      replace t1 := (hbw.cell (cell_blk' t1)).trans t1
      replace t2 := (hbw.cell (cell_blk' t2)).trans t2
      rw [Nat.zero_mul, Nat.add_zero] at t0 t1 t2
      have hcap := hR.o.1.tl
      have hcm := hR.o.1.tm
      simp only [RS.at, List.length_cons] at hcap hcm c1
      obtain ⟨m, hm⟩ : ∃ m, m = l.length + 1 := ⟨_, rfl⟩
      rw [← hm] at c1
      have hm0 : 0 < m := by omega
      have hmz : (0 : Int) < (m : Int) := by omega
      have hm1 : 1 ≤ m := by omega
      have hml : m - 1 = l.length := by omega
      have hno : ¬ r.own g W.heap.size := fun ho => by have := (HR.o.own_lt _ ho).2; omega
      have hwl : w0.heap.size ≤ W.heap.size := HR.o.bl.size
      clear hm hbw HR
      obtain ⟨t', ta, tb⟩ := t
      simp only at t0 t1 t2
      by_cases hb : t' = 1
      · subst hb
        obtain ⟨A, hA⟩ : ∃ A : Option Addr, (if cap = 1 then some (⟨b, f, none⟩ : Addr) else some ⟨b, f + 3, none⟩) = A := ⟨_, rfl⟩
        have HN := hq (hR.o.1.next (l := l) (o' := A) (cap' := cap - 1) (by omega) (by unfold maxLen at *; omega) ⟨by
          rw [← hA]
          split
          · rename_i h1
            have : l = [] := List.eq_nil_of_length_eq_zero (by omega)
            subst this
            exact fun i hi => absurd hi (Nat.not_lt_zero _)
          · exact TokIn.tail hR.o.1.tk.1, fun t ht => hR.o.1.tk.2 t (List.mem_cons_of_mem _ ht)⟩)
        have HF := hq (hR.o.2.1.trans (Fr.put r g wr 1 (.slice A l.length (cap - 1))))
        have HNB : Hq (nbl l = nbl r.ts) := hq (by have h := hR.o.2.2.1; rw [nbl_cons, if_pos rfl] at h; exact h)
        have HWW : Hq (Whole (wr.setCell ⟨g, 1, none⟩ (.slice A l.length (cap - 1))) W.heap.size 51 #[.int .i64 0, .int .i64 0, .int .i64 0]) := hq (hR.o.2.2.2.far (p := ⟨g, 1, none⟩) (by simp only; omega) _)
        clear hR
        go_wp2_with fail
        go_roundg l.length
        case measure => simp only [List.length_cons] at hk; omega
        case rel => exact ⟨l, A, cap - 1, Nat.le_refl _, hq ⟨HN.o, HF.o, HNB.o, HWW.o⟩⟩
      · have hbz : ((t' : Int) == 1) = false := beq_eq_false_iff_ne.2 (by omega)
        have hbz2 : ¬ (t' : Int) = 1 := by omega
        have HS := hq (whole_set3 hR.o.2.2.2 (.int .i64 (t' : Int)) (.int .i64 (ta : Int)) (.int .i64 (tb : Int)))
        have HV := hq (HP.o ((t', ta, tb) :: l) (some ⟨b, f, none⟩) cap _ (hR.o.1.far3 hno hwl (.int .i64 (t' : Int)) (.int .i64 (ta : Int)) (.int .i64 (tb : Int))) (hR.o.2.1.new3 (Nat.le_refl _) _ _ _) hR.o.2.2.1 (.inr ⟨_, _, rfl, hb⟩))
        have z0 := HS.o.at_ 0
        have z1 := HS.o.at_ 1
        have z2 := HS.o.at_ 2
        unfold set3 at z0 z1 z2 HV
        have HZ := hq (And.intro z0 (And.intro z1 z2))
        clear z0 z1 z2 HS hR
        go_wp2_with fail
        refine bodyPost_ret (v := nextV ((t', ta, tb) :: l)) ?_ rfl HV.o
        obtain ⟨z0, z1, z2⟩ := HZ.o
        simp [results, Tryd.results23, go_sem, z0, z1, z2, nextV]

def tokA (t : Tok) : Value := .agg #[.int .i64 (t.1 : Int), .int .i64 (t.2.1 : Int), .int .i64 (t.2.2 : Int)]
def zeroA : Value := .agg #[.int .i64 0, .int .i64 0, .int .i64 0]
def TakePost (w0 : World) (g : Nat) (s : ByteArray) (r : RS) (one other : Nat) (W : World) (e : Ending) (W' : World) : Prop :=
  match takeM s.size one other (nbl r.ts) with
  | .inl (wh, er) => e = .returned (.tuple #[zeroA, .bool false]) ∧ (∃ ts o cap, Rd w0 g s ((r.at ts o cap).bad wh er) W') ∧ Fr (r.own g) (r.own g) W W'
  | .inr (t, l) => e = .returned (.tuple #[tokA t, .bool true]) ∧ (t.2.1 ≤ t.2.2 ∧ t.2.2 ≤ s.size) ∧ (∃ ts o cap, Rd w0 g s (r.at ts o cap) W' ∧ nbl ts = l) ∧ Fr (r.own g) (r.own g) W W'

set_option maxHeartbeats 1000000 in
set_option maxRecDepth 1000000 in
theorem jtake_any {w0 W : World} {g : Nat} {s : ByteArray} {r : RS} (h : Rd w0 g s r W) (one other : Nat) :
    Calls Tryd.prog 57 #[.pointer (some ⟨g, 0, none⟩), .int .i64 (one : Int), .int .i64 (other : Int)] W (TakePost w0 g s r one other W) := by
  have HN := hq (jnext_any (h.grow (below_alloc W (.cells #[.int .i64 0, .int .i64 0, .int .i64 0] 51))))
  have HL : Hq (Lo (r.own g) (W.alloc (.cells #[.int .i64 0, .int .i64 0, .int .i64 0] 51)) W.heap.size 51 #[.int .i64 0, .int .i64 0, .int .i64 0]) := hq (Lo.new (fun k hk => (h.own_lt k hk).2) _ _)
  have HF0 : Hq (Fr (r.own g) (r.own g) W (W.alloc (.cells #[.int .i64 0, .int .i64 0, .int .i64 0] 51))) := hq (Fr.of_below _ (below_alloc W _))
  have hwl : w0.heap.size ≤ W.heap.size := h.bl.size
  have HOL := hq h.own_lt
  clear h
  have HPL : Hq (∀ wh er W', takeM s.size one other (nbl r.ts) = .inl (wh, er) → (∃ ts o cap, Rd w0 g s ((r.at ts o cap).bad wh er) W') → Fr (r.own g) (r.own g) W W' → TakePost w0 g s r one other W (.returned (.tuple #[zeroA, .bool false])) W') := hq (fun wh er W' h1 h2 h3 => by unfold TakePost; rw [h1]; exact ⟨rfl, h2, h3⟩)
  have HPR : Hq (∀ t l W', takeM s.size one other (nbl r.ts) = .inr (t, l) → (t.2.1 ≤ t.2.2 ∧ t.2.2 ≤ s.size) → (∃ ts o cap, Rd w0 g s (r.at ts o cap) W' ∧ nbl ts = l) → Fr (r.own g) (r.own g) W W' → TakePost w0 g s r one other W (.returned (.tuple #[tokA t, .bool true])) W') := hq (fun t l W' h1 h0 h2 h3 => by unfold TakePost; rw [h1]; exact ⟨rfl, h0, h2, h3⟩)
  generalize hPP : TakePost w0 g s r one other W = PP at *
  clear hPP
  go_enter Tryd.func57, Tryd.ntmps57
  go_wp2_with fail
  refine HN.o.mono ?_
  rintro e W2 ⟨ts, o, cap, rfl, hR, hF, hnb, hst⟩
  have HR2 := hq hR
  have HL2 := hq (HL.o.step hF)
  have HF2 := hq (HF0.o.trans hF)
  have HNB := hq hnb
  clear hR hF hnb HN HL HF0
  rcases hst with rfl | ⟨t, l, rfl, ht⟩
  · unfold nextV
    have HT : Hq (takeM s.size one other (nbl r.ts) = .inl (s.size, 2)) := hq (by rw [← HNB.o]; rfl)
    have HW3 := hq (HR2.o.grow (below_alloc W2 (.cells #[.int .i64 0, .int .i64 0, .int .i64 0] 51)))
    have HF3 := hq (HF2.o.trans (Fr.of_below _ (below_alloc W2 (.cells #[.int .i64 0, .int .i64 0, .int .i64 0] 51))))
    have HL3 := hq (HL2.o.below (below_alloc W2 (.cells #[.int .i64 0, .int .i64 0, .int .i64 0] 51)))
    have hc0 := HW3.o.cells.1
    have HC := hq (jfail_any HW3.o 2 (s.size : Int))
    clear HR2 HF2 HL2 HNB
    go_wp2_with fail
    refine HC.o.mono ?_
    rintro e W4 ⟨rfl, hR4, hF4⟩
    have HF4 := hq (HF3.o.trans hF4)
    have HL4 := hq (HL3.o.step hF4)
    have HS := hq (whole_set3 HL4.o.at_ (.int .i64 0) (.int .i64 0) (.int .i64 0))
    have HV := hq (HPL.o s.size 2 _ HT.o ⟨[], o, cap, hR4.far3 HL4.o.no hwl (.int .i64 0) (.int .i64 0) (.int .i64 0)⟩ (HF4.o.new3 (Nat.le_refl _) _ _ _))
    have z0 := HS.o.at_ 0
    have z1 := HS.o.at_ 1
    have z2 := HS.o.at_ 2
    have y0 := HL4.o.at_.at_ 0
    have y1 := HL4.o.at_.at_ 1
    have y2 := HL4.o.at_.at_ 2
    have yf := HL4.o.at_.free
    unfold set3 at z0 z1 z2 HV
    have HZ := hq (And.intro z0 (And.intro z1 z2))
    clear z0 z1 z2 HS HC hR4 hF4 HF3 HL3 HW3 hc0
    go_wp2_with fail
    refine bodyPost_ret (v := .tuple #[zeroA, .bool false]) ?_ rfl HV.o
    obtain ⟨z0, z1, z2⟩ := HZ.o
    simp [results, Tryd.results57, go_sem, z0, z1, z2, zeroA]
  · obtain ⟨kd, ta, tb⟩ := t
    unfold nextV
    dsimp only
    simp only at ht
    have HNB2 : Hq (nbl r.ts = (kd, ta, tb) :: nbl l) := hq (by rw [← HNB.o, nbl_cons, if_neg ht])
    have HW3 := hq (HR2.o.grow (below_alloc W2 (.cells #[.int .i64 (kd : Int), .int .i64 (ta : Int), .int .i64 (tb : Int)] 51)))
    have HF3 := hq (HF2.o.trans (Fr.of_below _ (below_alloc W2 (.cells #[.int .i64 (kd : Int), .int .i64 (ta : Int), .int .i64 (tb : Int)] 51))))
    have HL3 := hq (HL2.o.below (below_alloc W2 (.cells #[.int .i64 (kd : Int), .int .i64 (ta : Int), .int .i64 (tb : Int)] 51)))
    have HB3 : Hq (Lo (r.own g) (W2.alloc (.cells #[.int .i64 (kd : Int), .int .i64 (ta : Int), .int .i64 (tb : Int)] 51)) W2.heap.size 51 #[.int .i64 (kd : Int), .int .i64 (ta : Int), .int .i64 (tb : Int)]) := hq (Lo.new (fun k hk => (HR2.o.own_lt k hk).2) _ _)
    have x0 := HB3.o.at_.at_ 0
    have x1 := HB3.o.at_.at_ 1
    have x2 := HB3.o.at_.at_ 2
    have HC := hq (jfail_any HW3.o 2 (ta : Int))
    by_cases hno : kd ≠ one ∧ kd ≠ other
    · have h1 : ((kd : Int) != (one : Int)) = true := bne_iff_ne.2 (by omega)
      have h2 : ((kd : Int) != (other : Int)) = true := bne_iff_ne.2 (by omega)
      have h3 : ¬ (kd : Int) = (one : Int) := by omega
      have h4 : ¬ (kd : Int) = (other : Int) := by omega
      have HT : Hq (takeM s.size one other (nbl r.ts) = .inl (ta, 2)) := hq (by rw [HNB2.o]; unfold takeM; simp only; rw [if_pos hno])
      clear HR2 HF2 HL2 HNB HNB2
      go_wp2_with fail
      refine HC.o.mono ?_
      rintro e W4 ⟨rfl, hR4, hF4⟩
      have HF4 := hq (HF3.o.trans hF4)
      have HL4 := hq (HL3.o.step hF4)
      have HS := hq (whole_set3 HL4.o.at_ (.int .i64 0) (.int .i64 0) (.int .i64 0))
      have HV := hq (HPL.o ta 2 _ HT.o ⟨_, o, cap, hR4.far3 HL4.o.no hwl (.int .i64 0) (.int .i64 0) (.int .i64 0)⟩ (HF4.o.new3 (Nat.le_refl _) _ _ _))
      have z0 := HS.o.at_ 0
      have z1 := HS.o.at_ 1
      have z2 := HS.o.at_ 2
      have y0 := HL4.o.at_.at_ 0
      have y1 := HL4.o.at_.at_ 1
      have y2 := HL4.o.at_.at_ 2
      have yf := HL4.o.at_.free
      unfold set3 at z0 z1 z2 HV
      have HZ := hq (And.intro z0 (And.intro z1 z2))
      clear z0 z1 z2 HS HC hR4 hF4 HF3 HL3 HW3 HB3 x0 x1 x2
      go_wp2_with fail
      refine bodyPost_ret (v := .tuple #[zeroA, .bool false]) ?_ rfl HV.o
      obtain ⟨z0, z1, z2⟩ := HZ.o
      simp [results, Tryd.results57, go_sem, z0, z1, z2, zeroA]
    · have HT : Hq (takeM s.size one other (nbl r.ts) = .inr ((kd, ta, tb), nbl l)) := hq (by rw [HNB2.o]; unfold takeM; simp only; rw [if_neg hno])
      obtain ⟨b, f, A, ho, hA, hcap, hR5⟩ := HW3.o.tail
      subst ho
      have hc1 := HW3.o.cells.2.1
      have hcf := HW3.o.cells.2.2.2.2.2
      simp only [RS.at, List.length_cons] at hc1
      obtain ⟨m, hm⟩ : ∃ m, m = l.length + 1 := ⟨_, rfl⟩
      rw [← hm] at hc1 hcap
      have hm0 : 0 < m := by omega
      have hmz : (0 : Int) < (m : Int) := by omega
      have hm1 : 1 ≤ m := by omega
      have hml : m - 1 = l.length := by omega
      have hF5 := HF3.o.trans (Fr.put r g _ 1 (.slice A l.length (cap - 1)))
      have hfr := Fr.put r g (W2.alloc (.cells #[.int .i64 (kd : Int), .int .i64 (ta : Int), .int .i64 (tb : Int)] 51)) 1 (.slice A l.length (cap - 1))
      have hL5 := HL3.o.step hfr
      have hB5 := HB3.o.step hfr
      have HS := hq (whole_set3 hL5.at_ (.int .i64 (kd : Int)) (.int .i64 (ta : Int)) (.int .i64 (tb : Int)))
      have HV := hq (HPR.o (kd, ta, tb) _ _ HT.o (HW3.o.tk.2 (kd, ta, tb) (List.mem_cons_self ..)) ⟨l, A, cap - 1, hR5.far3 hL5.no hwl (.int .i64 (kd : Int)) (.int .i64 (ta : Int)) (.int .i64 (tb : Int)), rfl⟩ (hF5.new3 (Nat.le_refl _) _ _ _))
      have z0 := HS.o.at_ 0
      have z1 := HS.o.at_ 1
      have z2 := HS.o.at_ 2
      have y0 := hL5.at_.at_ 0
      have y1 := hL5.at_.at_ 1
      have y2 := hL5.at_.at_ 2
      have yf := hL5.at_.free
      have v0 := hB5.at_.at_ 0
      have v1 := hB5.at_.at_ 1
      have v2 := hB5.at_.at_ 2
      unfold set3 at z0 z1 z2 HV
      have HZ := hq (And.intro z0 (And.intro z1 z2))
      clear z0 z1 z2 HS HC hR5 hF5 hfr hL5 hB5 HF3 HL3 HW3 HB3 HR2 HF2 HL2 HNB HNB2 HT hm
      by_cases h1 : kd = one
      · subst h1
        go_wp2_with fail
        refine bodyPost_ret (v := .tuple #[tokA (kd, ta, tb), .bool true]) ?_ rfl HV.o
        obtain ⟨z0, z1, z2⟩ := HZ.o
        simp [results, Tryd.results57, go_sem, z0, z1, z2, tokA]
      · have h2 : kd = other := Decidable.not_not.1 fun h2 => hno ⟨h1, h2⟩
        subst h2
        have h3 : ((kd : Int) != (one : Int)) = true := bne_iff_ne.2 (by omega)
        have h4 : ¬ (kd : Int) = (one : Int) := by omega
        go_wp2_with fail
        refine bodyPost_ret (v := .tuple #[tokA (kd, ta, tb), .bool true]) ?_ rfl HV.o
        obtain ⟨z0, z1, z2⟩ := HZ.o
        simp [results, Tryd.results57, go_sem, z0, z1, z2, tokA]
end Go.Proofs.YtleabaldjlbnlaaDoor

namespace Go.Proofs.YtleabaldjlbnlaaDoor
open Go.RowKit

/-- what reads the rest of a value -/
def restF (k : Nat) : Nat := if kindM k = 5 then 42 else if kindM k = 6 then 43 else 41
theorem jleaf_any (v : Value) (a b : Int) (W : World) : Calls Tryd.prog 41 #[v, .int .i64 a, .int .i64 b] W fun e W' => e = .returned (.bool true) ∧ W = W' := by
  go_enter Tryd.func41, Tryd.ntmps41
  go_wp2_with fail
  go_ret
  exact ⟨rfl, rfl⟩
set_option maxHeartbeats 1000000 in
set_option maxRecDepth 1000000 in
theorem jstep_any (v : Value) (k : Nat) (W : World) : Calls Tryd.prog 33 #[v, .int .i64 (k : Int)] W fun e W' => e = .returned (.tuple #[.int .i64 (kindM k : Int), .func (.func (restF k)) #[v] #[]]) ∧ W = W' := by
  have hmf : ∀ fn first cap w, (Instr.makeFunc fn first cap).run Tryd.prog w = .ok (.func fn first cap) w := fun _ _ _ _ => rfl
  by_cases h12 : k = 12
  · subst h12
    go_enter Tryd.func33, Tryd.ntmps33
    go_wp2_with fail
    go_ret2
    exact ⟨rfl, rfl⟩
  by_cases h10 : k = 10
  · subst h10
    go_enter Tryd.func33, Tryd.ntmps33
    go_wp2_with fail
    go_ret2
    exact ⟨rfl, rfl⟩
  by_cases h11 : k = 11
  · subst h11
    go_enter Tryd.func33, Tryd.ntmps33
    go_wp2_with fail
    go_ret2
    exact ⟨rfl, rfl⟩
  by_cases h9 : k = 9
  · subst h9
    go_enter Tryd.func33, Tryd.ntmps33
    go_wp2_with fail
    go_ret2
    exact ⟨rfl, rfl⟩
  by_cases h8 : k = 8
  · subst h8
    go_enter Tryd.func33, Tryd.ntmps33
    go_wp2_with fail
    go_ret2
    exact ⟨rfl, rfl⟩
  by_cases h4 : k = 4
  · subst h4
    go_enter Tryd.func33, Tryd.ntmps33
    go_wp2_with fail
    go_ret2
    exact ⟨rfl, rfl⟩
  by_cases h2 : k = 2
  · subst h2
    go_enter Tryd.func33, Tryd.ntmps33
    go_wp2_with fail
    go_ret2
    exact ⟨rfl, rfl⟩
  have HK : Hq (kindM k = 0) := hq (by unfold kindM; rw [if_neg h12, if_neg (by omega), if_neg h9, if_neg h8, if_neg h4, if_neg h2])
  have HRF : Hq (restF k = 41) := hq (by unfold restF; rw [HK.o]; rfl)
  have e1 : ¬ (k : Int) = 12 := by omega
  have e2 : ¬ (k : Int) = 10 := by omega
  have e3 : ¬ (k : Int) = 11 := by omega
  have e4 : ¬ (k : Int) = 9 := by omega
  have e5 : ¬ (k : Int) = 8 := by omega
  have e6 : ¬ (k : Int) = 4 := by omega
  have e7 : ¬ (k : Int) = 2 := by omega
  have e1' : ((k : Int) == 12) = false := beq_eq_false_iff_ne.2 e1
  have e2' : ((k : Int) == 10) = false := beq_eq_false_iff_ne.2 e2
  have e3' : ((k : Int) == 11) = false := beq_eq_false_iff_ne.2 e3
  have e4' : ((k : Int) == 9) = false := beq_eq_false_iff_ne.2 e4
  have e5' : ((k : Int) == 8) = false := beq_eq_false_iff_ne.2 e5
  have e6' : ((k : Int) == 4) = false := beq_eq_false_iff_ne.2 e6
  have e7' : ((k : Int) == 2) = false := beq_eq_false_iff_ne.2 e7
  go_enter Tryd.func33, Tryd.ntmps33
  go_wp2_with fail
  go_ret2
  exact ⟨by rw [HK.o, HRF.o]; rfl, rfl⟩

/-- the blocks that a list may turn: the reader's, and those of what reads its kids -/
def OM (g : Nat) (M : Nat → Prop) (r : RS) (k : Nat) : Prop := r.own g k ∨ M k
def ValPost (w0 : World) (g : Nat) (s : ByteArray) (r : RS) (d : Nat) (key : Nat × Nat) (W : World) (e : Ending) (W' : World) : Prop :=
  match valueM s.size (keyTx s) d (nbl r.ts) key r.ns with
  | .inl (wh, er) => (∃ q : Int, e = .returned (.tuple #[.int .i64 q, .bool false])) ∧ ∃ r', Rd w0 g s r' W' ∧ Fr (r.own g) (r'.own g) W W' ∧ r'.wh = (wh : Int) ∧ r'.er = er
  | .inr (l, ns) => e = .returned (.tuple #[.int .i64 (r.nv.length : Int), .bool true]) ∧ ∃ r', Rd w0 g s r' W' ∧ Fr (r.own g) (r'.own g) W W' ∧ nbl r'.ts = l ∧ r'.ns = ns
def KidPost (w0 : World) (g : Nat) (s : ByteArray) (M : Nat → Prop) (J : RS → List Bs → World → Prop) (ob : Bool) (d : Nat) (r : RS) (had : List Bs) (W : World) (e : Ending) (W' : World) : Prop :=
  match kidM (valueM s.size (keyTx s) d) ob s.size (keyTx s) had (nbl r.ts) r.ns with
  | .inl (wh, er) => (∃ q : Int, e = .returned (.tuple #[.int .i64 q, .bool false])) ∧ ∃ r', Rd w0 g s r' W' ∧ Fr (OM g M r) (OM g M r') W W' ∧ r'.wh = (wh : Int) ∧ r'.er = er
  | .inr (had', l, ns) => e = .returned (.tuple #[.int .i64 (r.nv.length : Int), .bool true]) ∧ ∃ r', Rd w0 g s r' W' ∧ J r' had' W' ∧ Fr (OM g M r) (OM g M r') W W' ∧ nbl r'.ts = l ∧ r'.ns = ns
def ListPost (w0 : World) (g : Nat) (s : ByteArray) (M : Nat → Prop) (ob : Bool) (d : Nat) (r : RS) (k : Nat) (W : World) (e : Ending) (W' : World) : Prop :=
  match listM (valueM s.size (keyTx s) d) ob s.size (keyTx s) k (nbl r.ts) r.ns with
  | .inl (wh, er) => e = .returned (.bool false) ∧ ∃ r', Rd w0 g s r' W' ∧ Fr (OM g M r) (OM g M r') W W' ∧ r'.wh = (wh : Int) ∧ r'.er = er
  | .inr (l, ns) => e = .returned (.bool true) ∧ ∃ r', Rd w0 g s r' W' ∧ Fr (OM g M r) (OM g M r') W W' ∧ nbl r'.ts = l ∧ r'.ns = ns
theorem Fr.om {g : Nat} {M : Nat → Prop} {r r' : RS} {W W' : World} (h : Fr (r.own g) (r'.own g) W W') : Fr (OM g M r) (OM g M r') W W' :=
  ⟨h.os, h.tape, h.output, h.size, fun k hk hn => h.block k hk fun ho => hn (.inl ho), fun k hk => hk.elim (fun ho => (h.own k ho).imp .inl id) fun hm => .inl (.inr hm)⟩
end Go.Proofs.YtleabaldjlbnlaaDoor
