/-
  SMALL WORDS ON MEMORY AND ON HIDING, of no program: a block whose cells are all known; a fact that a walk does not open.
  PLAIN MATHEMATICS, NO PROGRAM: widths of runes, lines of a text, the way from a byte to its line and column and back.
  PLAIN MATHEMATICS, NO PROGRAM: decimals as lists of bytes: literals, right numbers, their texts.
  A RANGE OVER A FUNCTION WHOSE ITERATOR WRITES A VARIABLE OF ITS OWN (captured, in a box): a law for a body that goes on in every round.
  SMALL WORDS ON MEMORY: new cells; a row that lies among others.
  PLAIN MATHEMATICS: the places of names; what rows say of two of them.
  PLAIN MATHEMATICS, NO PROGRAM: trees: how great, how deep, gone over one by one; orders of rows; pairs in the order of their keys.
  A ROW OF STRINGS AS AN ARGUMENT: read; carried into a world that has grown; a row of the call's own, read.
  TREES IN MEMORY: read; of a call's own.
  PLAIN MATHEMATICS of rules: which rows of texts a pattern fits.
  PLAIN MATHEMATICS of pointers' texts: a step with its two signs escaped, a path as a text, cut and unescaped again; what strings.ReplaceAll makes of one and of two bytes.
-/
import Derived.WalkKit
import Derived.WalkSpells
import Derived.WalkLawsBesides
import Derived.WalkSmall
import Derived.Lib.OthersKept
import Derived.BigQuiet
import Derived.Deep.QuietTactic
import Derived.Lib.DecodeN
import Derived.Laws.RangeAny
import Derived.Lib.Strings
import Derived.Lib.TrimByte
import Derived.Lib.Bytealg
import Derived.RangeFuncNested
import Derived.RangeFuncBound
import Derived.RangeFuncCalls
import Derived.RangeFuncLeaves
import Derived.Shelf.Abstract
import Derived.Shelf.RegionOpen
import Derived.OwnWalkIn
import Derived.TacticsInMore
import Derived.LoopNIn
import Derived.LoopIn
import Derived.Maps.AppendAt
import Derived.Maps.Views
import Derived.Maps.Own
import Derived.SliceStrings
import Derived.WideShapes
import Derived.Carry
import Derived.Below
import Derived.ChangeAt
import Derived.OpenShut
import Derived.Laws.AppendOwn
import Derived.Laws.OwnMore
import Derived.Lib.SplitLaws
import Derived.Lib.IndexBytes
import Derived.Lib.Replace
import Derived.Lib.ReplaceLaws
namespace Go.Proofs.YtmadgdafgkleiaaGreatDoor
open Go.RowKit
def Hq (p : Prop) : Prop := True → p
theorem Hq.o {p : Prop} (h : Hq p) : p := h trivial
theorem hq {p : Prop} (h : p) : Hq p := fun _ => h
theorem int_eq {k : IntKind} {a b : Int} (h : a = b) : Value.int k a = Value.int k b := by rw [h]
theorem ret_two {a a' b b' : Value} (h : a = a') (h' : b = b') : Ending.returned (.tuple #[a, b]) = Ending.returned (.tuple #[a', b']) := by rw [h, h']
def Whole (w : World) (g : Nat) (t : TypeId) (cs : Array Value) : Prop := w.heap[g]? = some (.cells cs t (0, 0))
section
variable {w w' : World} {g : Nat} {t : TypeId} {cs : Array Value}
theorem Whole.lt (h : Whole w g t cs) : g < w.heap.size := (Array.getElem?_eq_some_iff.1 h).1
theorem Whole.at_ (h : Whole w g t cs) (i : Nat) : w.cell? ⟨g, i, none⟩ = cs[i]? := cell_of_row w g i cs t (0, 0) h
theorem Whole.free (h : Whole w g t cs) (i : Nat) : w.frozen? ⟨g, i, none⟩ = false := frozen_of_row w g i cs t h
theorem Whole.made (w : World) (t : TypeId) (cs : Array Value) : Whole (w.alloc (.cells cs t)) w.heap.size t cs := heap_alloc_new w _
theorem Whole.kept {B : Nat} (h : Whole w g t cs) (hb : Below B w w') (hg : g < B) : Whole w' g t cs := (hb.block g hg).trans h
theorem Whole.grow (h : Whole w g t cs) (hb : Below w.heap.size w w') : Whole w' g t cs := h.kept hb h.lt
theorem Whole.alloc (h : Whole w g t cs) (o : Obj) : Whole (w.alloc o) g t cs := (Below.heap_alloc w o g h.lt).trans h
theorem Whole.put (h : Whole w g t cs) (i : Nat) (u : Value) : Whole (w.setCell ⟨g, i, none⟩ u) g t (cs.setIfInBounds i u) := by
  unfold Whole at h ⊢
  simp [World.setCell, Array.getElem?_modify, h]
theorem Whole.far (h : Whole w g t cs) {p : Addr} (hp : g ≠ p.block) (u : Value) : Whole (w.setCell p u) g t cs := (Below.heap_setCell w p u g hp).trans h
end
theorem below_trans {w w' w'' : World} (h : Below w.heap.size w w') (h' : Below w'.heap.size w' w'') : Below w.heap.size w w'' := h.trans (h'.mono h.size)
theorem below_alloc (w : World) (o : Obj) : Below w.heap.size w (w.alloc o) := (Below.refl _ _).alloc (Nat.le_refl _) o
end Go.Proofs.YtmadgdafgkleiaaGreatDoor
namespace Go.Proofs.YtmadgdafgkleiaaGreatDoor
def wd (s : ByteArray) (p : Nat) : Nat := (Utf8.decode s p).2
def byt (s : ByteArray) (p : Nat) : Nat := (s.get! p).toNat
theorem byt_lt (s : ByteArray) (p : Nat) : byt s p < 256 := (s.get! p).toNat_lt
theorem byt_eq (s : ByteArray) (p : Nat) (h : p < s.size) : byt s p = (s[p]'h).toNat := by
  unfold byt; rw [← get_at s p h]; rfl
theorem dec_eq (s : ByteArray) (i : Nat) : Utf8.decode s i = Lib.decodeN (s.size - i) (byt s i) (byt s (i + 1)) (byt s (i + 2)) (byt s (i + 3)) := Lib.decode_at s i
theorem wd_pos (s : ByteArray) (p : Nat) : 1 ≤ wd s p := by
  unfold wd; rw [dec_eq]; unfold Lib.decodeN; repeat' split
  all_goals simp
theorem wd_le4 (s : ByteArray) (p : Nat) : wd s p ≤ 4 := by
  unfold wd; rw [dec_eq]; unfold Lib.decodeN; repeat' split
  all_goals simp
theorem wd_le (s : ByteArray) (p : Nat) (h : p < s.size) : p + wd s p ≤ s.size := by
  unfold wd; rw [dec_eq]; unfold Lib.decodeN; repeat' split
  all_goals (simp only; try omega)
theorem wd_cont (s : ByteArray) (p j : Nat) (h1 : 1 ≤ j) (h2 : j < wd s p) : 128 ≤ byt s (p + j) := by
  revert h2
  unfold wd; rw [dec_eq]
  generalize s.size - p = n
  have hj : ∀ k, j = k → byt s (p + k) = byt s (p + j) := fun k hk => by rw [hk]
  have e1 := hj 1; have e2 := hj 2; have e3 := hj 3
  generalize byt s (p + j) = b at *
  generalize byt s (p + 1) = b1 at *
  generalize byt s (p + 2) = b2 at *
  generalize byt s (p + 3) = b3 at *
  generalize byt s p = b0 at *
  unfold Lib.decodeN
  repeat' split
  all_goals (intro h2; simp only at h2; omega)
theorem dec_low (s : ByteArray) (p : Nat) (h : byt s p < 128) : Utf8.decode s p = (byt s p, 1) := by
  rw [dec_eq]; unfold Lib.decodeN; rw [if_pos h]
theorem dec_high (s : ByteArray) (p : Nat) (h : 128 ≤ byt s p) : 128 ≤ (Utf8.decode s p).1 := by
  rw [dec_eq]; unfold Lib.decodeN; rw [if_neg (by omega)]; repeat' split
  all_goals (simp only; omega)
theorem dec_is (s : ByteArray) (p c : Nat) (hc : c < 128) : (Utf8.decode s p).1 = c ↔ byt s p = c := by
  by_cases h : byt s p < 128
  · rw [dec_low s p h]
  · have := dec_high s p (by omega)
    omega
theorem wd_low (s : ByteArray) (p : Nat) (h : byt s p < 128) : wd s p = 1 := by unfold wd; rw [dec_low s p h]
theorem dec_cut (s : ByteArray) (f t i : Nat) (ht : t ≤ s.size) (hn : t = s.size ∨ byt s (t - 1) < 128) (hi : f + i < t) : Utf8.decode (s.extract f t) i = Utf8.decode s (f + i) := by
  have hz : (s.extract f t).size = t - f := by rw [ByteArray.size_extract]; omega
  have hb : ∀ j, byt (s.extract f t) j = if f + j < t then byt s (f + j) else 0 := by
    intro j
    by_cases hj : f + j < t
    · rw [if_pos hj, byt_eq _ j (by omega), byt_eq _ (f + j) (by omega), ByteArray.getElem_extract]
    · rw [if_neg hj]
      unfold byt
      rw [show (s.extract f t).get! j = (s.extract f t).data[j]! from rfl, Array.getElem!_eq_getD, Array.getD]
      rw [dif_neg (by have : (s.extract f t).data.size = t - f := hz; omega)]
      rfl
  rw [dec_eq, dec_eq, hz, hb, hb, hb, hb]
  have e1 : f + (i + 1) = f + i + 1 := by omega
  have e2 : f + (i + 2) = f + i + 2 := by omega
  have e3 : f + (i + 3) = f + i + 3 := by omega
  rw [e1, e2, e3]
  have hn' : ∀ k, f + i + k + 1 = t → t ≠ s.size → byt s (f + i + k) < 128 := by
    intro k hk hne
    have := hn.resolve_left hne
    rw [← hk] at this; simpa using this
  have n0 := hn' 0; have n1 := hn' 1; have n2 := hn' 2
  simp only [Nat.add_zero] at n0
  rw [if_pos hi]
  generalize byt s (f + i + 1) = b1 at *
  generalize byt s (f + i + 2) = b2 at *
  generalize byt s (f + i + 3) = b3 at *
  generalize byt s (f + i) = b0 at *
  generalize hp : f + i = p at *
  have hsz : t - f - i = t - p := by omega
  rw [hsz]
  by_cases he : t = s.size
  · subst he
    by_cases c1 : p + 1 < s.size
    · rw [if_pos c1]
      by_cases c2 : p + 2 < s.size
      · rw [if_pos c2]
        by_cases c3 : p + 3 < s.size
        · rw [if_pos c3]
        · rw [if_neg c3]
          unfold Lib.decodeN
          have : ¬ (3 < s.size - p) := by omega
          simp [this]
      · rw [if_neg c2, if_neg (by omega)]
        unfold Lib.decodeN
        have h2 : ¬ (2 < s.size - p) := by omega
        simp [h2]
    · rw [if_neg c1, if_neg (by omega), if_neg (by omega)]
      unfold Lib.decodeN
      have h1 : ¬ (1 < s.size - p) := by omega
      simp [h1]
  · by_cases c1 : p + 1 < t
    · rw [if_pos c1]
      by_cases c2 : p + 2 < t
      · rw [if_pos c2]
        by_cases c3 : p + 3 < t
        · rw [if_pos c3]
          have m1 : 3 < t - p := by omega
          have m2 : 3 < s.size - p := by omega
          unfold Lib.decodeN
          have a1 : (1 < t - p) = True := by simp; omega
          have a2 : (2 < t - p) = True := by simp; omega
          have a3 : (1 < s.size - p) = True := by simp; omega
          have a4 : (2 < s.size - p) = True := by simp; omega
          simp only [a1, a2, a3, a4, m1, m2]
        · have k := n2 (by omega) he
          rw [if_neg c3]
          have m1 : ¬ 3 < t - p := by omega
          unfold Lib.decodeN
          have a1 : (1 < t - p) = True := by simp; omega
          have a2 : (2 < t - p) = True := by simp; omega
          have a3 : (1 < s.size - p) = True := by simp; omega
          have a4 : (2 < s.size - p) = True := by simp; omega
          have a5 : ¬ b2 / 64 = 2 := by omega
          simp only [a1, a2, a3, a4, m1, a5, false_and, and_false, true_and, if_false]
      · have k := n1 (by omega) he
        rw [if_neg c2, if_neg (by omega)]
        unfold Lib.decodeN
        have a1 : (1 < t - p) = True := by simp; omega
        have a2 : ¬ (2 < t - p) := by omega
        have a3 : (1 < s.size - p) = True := by simp; omega
        have a5 : ¬ b1 / 64 = 2 := by omega
        simp only [a5, a2, false_and, and_false, if_false]
    · have k := n0 (by omega) he
      unfold Lib.decodeN
      rw [if_pos k, if_pos k]
/-! ### lines -/
def lst (s : ByteArray) : Nat → Nat
  | 0 => 0
  | p + 1 => if byt s p = 10 then p + 1 else lst s p
def lfs (s : ByteArray) : Nat → Nat
  | 0 => 0
  | p + 1 => if byt s p = 10 then lfs s p + 1 else lfs s p
def lnsTo (s : ByteArray) : Nat → List (Nat × Nat)
  | 0 => []
  | p + 1 => if byt s p = 10 then lnsTo s p ++ [(lst s p, p + 1)] else lnsTo s p
def lns (s : ByteArray) : List (Nat × Nat) := lnsTo s s.size ++ [(lst s s.size, s.size)]
/-! ### columns -/
def cols (s : ByteArray) (q : Nat) : Nat → Nat → Nat
  | 0, _ => 0
  | fuel + 1, p => if p < s.size ∧ p + wd s p ≤ q then 1 + cols s q fuel (p + wd s p) else 0
def walkTo (s : ByteArray) (t : Nat) : Nat → Nat → Option Nat
  | 0, p => some p
  | c + 1, p => if p < t then walkTo s t c (p + wd s p) else none
inductive Begins (s : ByteArray) : Nat → Prop
  | zero : Begins s 0
  | step {p : Nat} (h : Begins s p) (hp : p < s.size) : Begins s (p + wd s p)
end Go.Proofs.YtmadgdafgkleiaaGreatDoor
namespace Go.Proofs.YtmadgdafgkleiaaGreatDoor
abbrev Bs := List UInt8
abbrev st (l : Bs) : ByteArray := ⟨l.toArray⟩
theorem st_list (l : Bs) : (st l).data.toList = l := by simp
theorem st_size (l : Bs) : (st l).size = l.length := by simp [ByteArray.size]
theorem st_of (s : ByteArray) : st s.data.toList = s := by cases s; simp
theorem extract_st (s : ByteArray) (a b : Nat) : s.extract a b = st ((s.data.toList.drop a).take (b - a)) := by
  have h : (s.extract a b).data.toList = (s.data.toList.drop a).take (b - a) := by
    rw [ByteArray.data_extract, Array.toList_extract]
  rw [← h, st_of]
def isDig (c : UInt8) : Bool := decide (48 ≤ c.toNat) && decide (c.toNat ≤ 57)
def nd (l : Bs) : Nat := (l.takeWhile isDig).length
end Go.Proofs.YtmadgdafgkleiaaGreatDoor
namespace Go.Proofs.YtmadgdafgkleiaaGreatDoor
open Go.RowKit Go.Shelf
def FreeOf {α : Type} (B : Nat) (J : List α → World → Prop) : Prop := ∀ pre A u, J pre A → J pre (A.setCell ⟨B, 0, none⟩ u)
def GivesB {α : Type} (F : Fence) (n : Nat) (P : Program) (g : Nat) (lb : Array Value) (encs : α → Array Value) (Kp : World → World → Prop) (Bn : Nat) (xs : List α) (w : World) : Prop :=
  ∀ (l : Nat) (J : List α → World → Prop) (W : World), Below w.heap.size w W → AbidesFrom W.heap.size J → FreeOf Bn J →
    (∀ pre x W1, J pre W1 → pre ++ [x] <+: xs → YieldAt F (n - 1) P l (encs x) W1 fun e W' => e = .returned (.bool true) ∧ J (pre ++ [x]) W' ∧ Kp W1 W') →
    J [] W → CallsIn F n P g (#[.func (.yield l) #[] #[]] ++ lb) W fun e W' => (∃ v, e = .returned v) ∧ J xs W'
def onPost (B : Nat) (Kp : World → World → Prop) (I : World → Prop) (W : World) : Exit → Act → World → Prop
  | .normal, _, W' => KeepsFrom B W W' ∧ Kp W W' ∧ I W'
  | _, _, _ => False
theorem range_box {F : Fence} {n : Nat} {P : Program} {α : Type} {g : Operand} {ps : Array Tmp} {assign body : Code} {Q : Exit → Act → World → Prop} {a : Act} {w : World}
    (hro : F.round = none) (h1 : 1 ≤ n) {gf : Nat} {lb : Array Value} (hg : a.eval g = .func (.func gf) #[] lb) (hFg : F.fn gf) (eg : ∀ args w, (callFunc gf args).run P w = .ok (.enter gf args) w)
    {encs : α → Array Value} {Kp : World → World → Prop} {Bn : Nat} {xs : List α} {w0 : World} (hseq : GivesB F (n - 1) P gf lb encs Kp Bn xs w0) (hBn : Bn < w.heap.size)
    (hKt : ∀ {A B C : World}, Kp A B → Kp B C → Kp A C) (hKb : ∀ (W : World) (l : Nat) (o o' : Obj), w.heap.size ≤ l → W.heap[l]? = some o → o.isCells = false → o.isWalk = false → Kp W (W.putObj l o')) (hb0 : Below w0.heap.size w0 w) (hps : ∀ x, (encs x).size = ps.size)
    (I : List α → World → Prop) (hI : OwnFrom w.heap.size I) (hIB : FreeOf Bn I) (h0 : I [] w) (a₁ : α → Act)
    (hassign : ∀ (l : Nat) (x : α) (W : World) (K : Act → World → Prop), K (a₁ x) W →
      assign.wpIn (F.inRound l) (n - 1 - 1) P (Exit.then K (fun _ _ _ => False)) { tmps := (ps.zip (encs x)).foldl (fun t (p, v) => t.setIfInBounds p v) a.tmps, defers := [] } W)
    (hbody : ∀ (l : Nat) (pre : List α) (x : α) (W : World), w.heap.size ≤ l → l < W.heap.size → I pre W → pre ++ [x] <+: xs → body.wpIn (F.inRound l) (n - 1 - 1) P (onPost w.heap.size Kp (I (pre ++ [x])) W) (a₁ x) W)
    (hdone : ∀ (D : Nat) (W : World), w.heap.size ≤ D → I xs W → W.heap[D]? = some (.deferred (some [])) → Q .normal { a with defers := { target := .collected D, args := #[] } :: a.defers } W) :
    (Code.rangeFunc g ps assign body).wpIn F n P Q a w := by
  refine wpIn_rangeFunc fun fn hfn => ?_
  rw [hro]
  obtain ⟨rec, hrec⟩ : ∃ rec : LoopState → Option Code → Loop, rec = fun st pe => { state := st, pending := pe, fn, tmps := a.tmps, params := ps, assign, body, defers := w.heap.size } := ⟨_, rfl⟩
  have hL1 : ((w.alloc (.deferred (some []))).alloc (.loop (rec .ready none))).heap[w.heap.size + 1]? = some (.loop (rec .ready none)) := by
    have := World.alloc_heap_new (w.alloc (.deferred (some []))) (.loop (rec .ready none))
    rwa [World.size_alloc] at this
  have hK1 : ((w.alloc (.deferred (some []))).alloc (.loop (rec .ready none))).heap[w.heap.size]? = some (.deferred (some [])) := (Below.heap_alloc _ _ _ (by simp)).trans (World.alloc_heap_new w _)
  have hI1 : I [] ((w.alloc (.deferred (some []))).alloc (.loop (rec .ready none))) := hI.alloc _ (hI.alloc _ h0)
  have hb1 : Below w0.heap.size w0 ((w.alloc (.deferred (some []))).alloc (.loop (rec .ready none))) := hb0.trans ((((Below.refl _ w).alloc (Nat.le_refl _) _).alloc (by simp) _).mono hb0.size)
  have hz1 : ((w.alloc (.deferred (some []))).alloc (.loop (rec .ready none))).heap.size = w.heap.size + 1 + 1 := by simp
  have hen : (Instr.enterLoop fn a.tmps ps assign body none).run P w = .ok (w.heap.size + 1, [{ target := .collected w.heap.size, args := #[] }]) ((w.alloc (.deferred (some []))).alloc (.loop (rec .ready none))) := by
    rw [hrec]; exact run_enterLoop_outer _ _ _ _ _
  generalize (w.alloc (.deferred (some []))).alloc (.loop (rec .ready none)) = W1 at *
  refine ⟨w.heap.size + 1, [{ target := .collected w.heap.size, args := #[] }], W1, { target := .fn (.func gf) lb, args := #[.func (.yield (w.heap.size + 1)) #[] #[]] }, W1, gf, #[.func (.yield (w.heap.size + 1)) #[] #[]] ++ lb, W1, hen, ?_, ?_, ?_, fun _ => h1, ?_⟩
  · simp only [resolve, hg]
    simp [go_sem]
  · intro f' hf'
    simp [Target.leads] at hf'
    subst hf'
    exact hFg
  · simp [invoke, go_sem, eg]
  · have hnw : ∀ {A : World} {row : Option Nat}, (∀ r, row = some r → W1.heap.size ≤ r ∧ ∃ o : Obj, A.heap[r]? = some o ∧ o.isWalk = true) → (∀ r, row = some r → w.heap.size ≤ r ∧ ∃ o : Obj, A.heap[r]? = some o ∧ o.isCells = false) :=
      fun hr r e => by obtain ⟨hB, o, ho, hw⟩ := hr r e; exact ⟨by omega, o, ho, Obj.not_cells_of_walk hw⟩
    refine (hseq (w.heap.size + 1) (fun pre W => I pre W ∧ W.heap[w.heap.size + 1]? = some (.loop (rec .ready none)) ∧ W.heap[w.heap.size]? = some (.deferred (some []))) W1 hb1
      (fun s A B row hs hg' hr => ⟨hI s A B row hs.1 hg' (hnw hr), (grownBy_keeps hg' (fun r e => (hr r e).2) hs.2.1 rfl).trans hs.2.1, (grownBy_keeps hg' (fun r e => (hr r e).2) hs.2.2 rfl).trans hs.2.2⟩)
      (fun s A u hs => ⟨hIB s A u hs.1, (Below.heap_setCell A ⟨Bn, 0, none⟩ u _ (by simp only; omega)).trans hs.2.1, (Below.heap_setCell A ⟨Bn, 0, none⟩ u _ (by simp only; omega)).trans hs.2.2⟩)
      ?_ ⟨hI1, hL1, hK1⟩).mono ?_
    · rintro pre x W ⟨hi, hl, hk⟩ hpre
      have hlt : w.heap.size + 1 < W.heap.size := (Array.getElem?_eq_some_iff.1 hl).1
      have hy := run_yield (P := P) (args := encs x) hl (by rw [hrec]; exact hps x)
      rw [hrec] at hy
      refine ⟨fn, _, assign, body, hy, roundIn_of_wpIn hfn (hassign _ x W _ ?_)⟩
      clear hy
      have hl2 : (W.putObj (w.heap.size + 1) (.loop { rec .ready none with state := .busy })).heap[w.heap.size + 1]? = some (.loop { rec .ready none with state := .busy }) := World.putObj_heap_same hlt
      have hk2 : (W.putObj (w.heap.size + 1) (.loop { rec .ready none with state := .busy })).heap[w.heap.size]? = some (.deferred (some [])) := (World.putObj_heap_other (by omega)).trans hk
      have hw2 : Kp W (W.putObj (w.heap.size + 1) (.loop { rec .ready none with state := .busy })) := hKb _ _ _ _ (by omega) hl rfl rfl
      refine ⟨_, run_beginRound hl (by rw [hrec]), ?_⟩
      refine wpIn_mono (hbody _ pre x _ (by omega) (Array.getElem?_eq_some_iff.1 hl2).1 (hI.putObj _ hi (by omega) hl rfl) hpre) ?_
      rintro e a3 W3 hp
      cases e with
      | normal =>
        obtain ⟨hk3, hkp3, hi3⟩ := hp
        have hl3 := hk3.same _ _ (by omega) hl2 rfl
        have hr := run_endRound (P := P) none hl3
        have hk4 := hk3.same _ _ (Nat.le_refl _) hk2 rfl
        rw [hrec] at hr hl3
        refine ⟨_, _, hr, rfl, ⟨hI.putObj _ hi3 (by omega) hl3 rfl, ?_, (World.putObj_heap_other (by omega)).trans hk4⟩, hKt (hKt hw2 hkp3) (hKb _ _ _ _ (by omega) hl3 rfl rfl)⟩
        rw [hrec]
        exact World.putObj_heap_same (Array.getElem?_eq_some_iff.1 hl3).1
      | ret => exact hp.elim
      | exit id => exact hp.elim
      | goto t => exact hp.elim
      | panic ch => exact hp.elim
      | outgrown => exact hp.elim
    · rintro e W2 ⟨⟨v, rfl⟩, hi, hl, hk⟩
      have he := run_endLoop (P := P) hl (by rw [hrec]; simp)
      rw [hrec] at he
      exact ⟨none, _, he, hdone _ _ (Nat.le_refl _) (hI.putObj _ hi (by omega) hl rfl) ((World.putObj_heap_other (by omega)).trans hk)⟩
theorem cells_of_new (w : World) (l : List Value) (T : TypeId) : ∀ j u, l[j]? = some u → (w.alloc (.cells l.toArray T)).cell? ((⟨w.heap.size, 0, none⟩ : Addr).add j) = some u := by
  intro j u h
  rw [show (⟨w.heap.size, 0, none⟩ : Addr).add j = ⟨w.heap.size, j, none⟩ by simp [Addr.add]; exact fun h => h.symm, World.cell?_alloc_new]
  simpa using h
end Go.Proofs.YtmadgdafgkleiaaGreatDoor
namespace Go.Proofs.YtmadgdafgkleiaaGreatDoor
open Go.Maps
def lastTo (x : Bs) (l : List Bs) : Nat → Option Nat
  | 0 => none
  | k + 1 => if l[k]? = some x then some k else lastTo x l k
def lastIx (x : Bs) (l : List Bs) : Option Nat := lastTo x l l.length
def mapTo (l : List Bs) : Nat → DataW Unit
  | 0 => .map []
  | k + 1 => (mapTo l k).put (.string (l.getD k [])) (.lit (.int .i64 k))
def mapD (l : List Bs) : DataW Unit := mapTo l l.length
def onceB (l : List Bs) : Bool := decide (l.length ≤ 256) && decide (size (mapD l) = l.length)
def sayM (l : List Bs) (x y : Bs) : Int := match lastIx x l, lastIx y l with
  | some i, some j => if i < j then -1 else if j < i then 1 else 0
  | _, _ => 0
def aheadI (b l r : Int) : Int × Bool :=
  if b ≠ 0 then (if l = -b ∨ r = -b then (-b, true) else (b, true))
  else if l ≠ 0 ∧ r = -l then (0, false)
  else if l ≠ 0 then (l, true) else (r, true)
def aheadM (base left right : List Bs) (x y : Bs) : Int × Bool := aheadI (sayM base x y) (sayM left x y) (sayM right x y)
end Go.Proofs.YtmadgdafgkleiaaGreatDoor
namespace Go.Proofs.YtmadgdafgkleiaaGreatDoor
inductive Vl where
  | mk (k : Int) (t : Bs) (ks : List Bs) (is : List Vl)
namespace Vl
def k : Vl → Int | .mk k _ _ _ => k
def t : Vl → Bs | .mk _ t _ _ => t
def ks : Vl → List Bs | .mk _ _ ks _ => ks
def is : Vl → List Vl | .mk _ _ _ is => is
theorem ind {P : Vl → Prop} (h : ∀ k t ks is, (∀ x ∈ is, P x) → P (.mk k t ks is)) : ∀ v, P v := fun v =>
  Vl.rec (motive_1 := P) (motive_2 := fun l => ∀ x ∈ l, P x) (fun k t ks is ih => h k t ks is ih) (fun _ hx => by cases hx)
    (fun v l hv hl x hx => by
      rcases List.mem_cons.1 hx with rfl | hx
      · exact hv
      · exact hl x hx) v
instance : Inhabited Vl := ⟨.mk 0 [] [] []⟩
end Vl
inductive Vl.All (p : Vl → Prop) : Vl → Prop
  | mk (k : Int) (t : Bs) (ks : List Bs) (is : List Vl) (h : p (.mk k t ks is)) (hi : ∀ x ∈ is, Vl.All p x) : Vl.All p (.mk k t ks is)
theorem Vl.All.here {p : Vl → Prop} {v : Vl} (h : v.All p) : p v := by cases h; assumption
theorem Vl.All.items {p : Vl → Prop} {k : Int} {t : Bs} {ks : List Bs} {is : List Vl} (h : (Vl.mk k t ks is).All p) : ∀ x ∈ is, x.All p := by cases h; assumption
theorem Vl.All.mono {p q : Vl → Prop} (h : ∀ v, p v → q v) : ∀ {v : Vl}, v.All p → v.All q := fun {v} => Vl.ind (P := fun v => v.All p → v.All q) (fun k t ks is ih hv => .mk k t ks is (h _ hv.here) (fun x hx => ih x hx (hv.items x hx))) v
mutual
def Vl.size : Vl → Nat
  | .mk _ _ _ is => 1 + Vl.sizes is
def Vl.sizes : List Vl → Nat
  | [] => 0
  | v :: l => v.size + Vl.sizes l
end
mutual
def Vl.depth : Vl → Nat
  | .mk _ _ _ is => Vl.depths is + 1
def Vl.depths : List Vl → Nat
  | [] => 0
  | v :: l => max v.depth (Vl.depths l)
end
mutual
def Vl.weight : Vl → Nat
  | .mk _ _ ks is => 1 + ks.length + Vl.weights is
def Vl.weights : List Vl → Nat
  | [] => 0
  | v :: l => v.weight + Vl.weights l
end
mutual
def Vl.allB (p : Vl → Bool) : Vl → Bool
  | .mk k t ks is => p (.mk k t ks is) && Vl.allsB p is
def Vl.allsB (p : Vl → Bool) : List Vl → Bool
  | [] => true
  | v :: l => v.allB p && Vl.allsB p l
end
theorem Vl.allsB_iff {p : Vl → Bool} : ∀ {l : List Vl}, Vl.allsB p l = true ↔ ∀ x ∈ l, x.allB p = true
  | [] => by simp [Vl.allsB]
  | v :: l => by simp only [Vl.allsB, Bool.and_eq_true, List.mem_cons, forall_eq_or_imp, Vl.allsB_iff (l := l)]
theorem Vl.sizes_le {l : List Vl} : ∀ x ∈ l, x.size ≤ Vl.sizes l := by
  induction l with
  | nil => intro x hx; cases hx
  | cons v l ih =>
    intro x hx
    simp only [Vl.sizes]
    rcases List.mem_cons.1 hx with rfl | hx
    · omega
    · have := ih x hx; omega
mutual
def Vl.visits (d : Nat) : Vl → List (Vl × Nat)
  | .mk k t ks is => (.mk k t ks is, d) :: Vl.visitsL (d + 1) is
def Vl.visitsL (d : Nat) : List Vl → List (Vl × Nat)
  | [] => []
  | v :: l => v.visits d ++ Vl.visitsL d l
end
def deepest (l : List (Vl × Nat)) : Nat := l.foldl (fun m x => max m x.2) 0
theorem deepest_acc (l : List (Vl × Nat)) : ∀ m, l.foldl (fun m x => max m x.2) m = max m (deepest l) := by
  induction l with
  | nil => intro m; simp [deepest]
  | cons x l ih =>
    intro m
    unfold deepest
    simp only [List.foldl_cons]
    rw [ih, ih (max 0 x.2)]
    omega
theorem deepest_append (a b : List (Vl × Nat)) : deepest (a ++ b) = max (deepest a) (deepest b) := by
  have : deepest (a ++ b) = b.foldl (fun m x => max m x.2) (deepest a) := by unfold deepest; rw [List.foldl_append]
  rw [this, deepest_acc]
theorem deepest_cons (x : Vl × Nat) (b : List (Vl × Nat)) : deepest (x :: b) = max x.2 (deepest b) := by
  have : deepest (x :: b) = b.foldl (fun m x => max m x.2) (max 0 x.2) := rfl
  rw [this, deepest_acc]; omega
def goV (ok : List (Vl × Nat) → Vl × Nat → Bool) : List (Vl × Nat) → List (Vl × Nat) → Bool × List (Vl × Nat)
  | pre, [] => (true, pre)
  | pre, x :: l => if ok pre x = true then goV ok (pre ++ [x]) l else (false, pre ++ [x])
/-! ### rows ordered one by one -/
def lexM {α β : Type} (f : α → β → Int) : List α → List β → Int
  | [], [] => 0
  | [], _ :: _ => -1
  | _ :: _, [] => 1
  | x :: a, y :: b => if f x y ≠ 0 then f x y else lexM f a b
structure Ordr {α : Type} (S : α → Prop) (f : α → α → Int) : Prop where
  swap : ∀ x y, S x → S y → f y x = - f x y
  tr : ∀ x y z, S x → S y → S z → f x y ≤ 0 → f y z ≤ 0 → f x z ≤ 0
theorem Ordr.strict {α : Type} {S : α → Prop} {f : α → α → Int} (h : Ordr S f) (x y z : α) (sx : S x) (sy : S y) (sz : S z) (h1 : f x y ≤ 0) (h2 : f y z ≤ 0) (h3 : f x z = 0) : f x y = 0 ∧ f y z = 0 := by
  have s1 := h.swap x y sx sy
  have s2 := h.swap y z sy sz
  have s3 := h.swap x z sx sz
  have t1 := h.tr y z x sy sz sx h2 (by omega)
  have t2 := h.tr z x y sz sx sy (by omega) h1
  omega
theorem lexM_swap {α : Type} {S : α → Prop} {f : α → α → Int} (h : Ordr S f) : ∀ (a b : List α), (∀ x ∈ a, S x) → (∀ x ∈ b, S x) → lexM f b a = - lexM f a b
  | [], [], _, _ => rfl
  | [], _ :: _, _, _ => rfl
  | _ :: _, [], _, _ => rfl
  | x :: a, y :: b, ha, hb => by
    have h1 := h.swap x y (ha x List.mem_cons_self) (hb y List.mem_cons_self)
    have h2 := lexM_swap h a b (fun z hz => ha z (List.mem_cons_of_mem _ hz)) (fun z hz => hb z (List.mem_cons_of_mem _ hz))
    simp only [lexM, h1, h2]
    by_cases h0 : f x y = 0
    · rw [if_neg (by omega), if_neg (by omega)]
    · rw [if_pos (by omega), if_pos h0]
theorem lexM_trans {α : Type} {S : α → Prop} {f : α → α → Int} (h : Ordr S f) : ∀ (a b c : List α), (∀ x ∈ a, S x) → (∀ x ∈ b, S x) → (∀ x ∈ c, S x) →
    lexM f a b ≤ 0 → lexM f b c ≤ 0 → lexM f a c ≤ 0
  | [], [], _, _, _, _, _, h2 => h2
  | [], _ :: _, [], _, _, _, _, _ => by simp [lexM]
  | [], _ :: _, _ :: _, _, _, _, _, _ => by simp [lexM]
  | _ :: _, [], _, _, _, _, h1, _ => by simp [lexM] at h1
  | _ :: _, _ :: _, [], _, _, _, _, h2 => by simp [lexM] at h2
  | x :: a, y :: b, z :: c, ha, hb, hc, h1, h2 => by
    have sx := ha x List.mem_cons_self
    have sy := hb y List.mem_cons_self
    have sz := hc z List.mem_cons_self
    have h3 := h.tr x y z sx sy sz
    have h3' := h.strict x y z sx sy sz
    have h4 := lexM_trans h a b c (fun z hz => ha z (List.mem_cons_of_mem _ hz)) (fun z hz => hb z (List.mem_cons_of_mem _ hz)) (fun z hz => hc z (List.mem_cons_of_mem _ hz))
    simp only [lexM] at h1 h2 ⊢
    by_cases e1 : f x y = 0
    · by_cases e2 : f y z = 0
      · rw [if_neg (by omega)] at h1 h2
        split
        · exact h3 (by omega) (by omega)
        · exact h4 h1 h2
      · rw [if_neg (by omega)] at h1
        rw [if_pos e2] at h2
        rw [if_pos (fun h0 => e2 (h3' (by omega) h2 h0).2)]
        exact h3 (by omega) h2
    · rw [if_pos e1] at h1
      have hyz : f y z ≤ 0 := by
        by_cases e2 : f y z = 0
        · omega
        · rw [if_pos e2] at h2; exact h2
      rw [if_pos (fun h0 => e1 (h3' h1 hyz h0).1)]
      exact h3 h1 hyz
theorem Ordr.lex {α : Type} {S : α → Prop} {f : α → α → Int} (h : Ordr S f) : Ordr (fun l => ∀ x ∈ l, S x) (lexM f) where
  swap a b sa sb := lexM_swap h a b sa sb
  tr a b c sa sb sc := lexM_trans h a b c sa sb sc
theorem Ordr.map {α β : Type} {S : α → Prop} {f : α → α → Int} (h : Ordr S f) {R : β → Prop} (g : β → α) (hR : ∀ b, R b → S (g b)) : Ordr R (fun a b => f (g a) (g b)) where
  swap x y rx ry := h.swap _ _ (hR x rx) (hR y ry)
  tr x y z rx ry rz := h.tr _ _ _ (hR x rx) (hR y ry) (hR z rz)
def thenM (a b : Int) : Int := if a ≠ 0 then a else b
theorem Ordr.then {α : Type} {S : α → Prop} {f g : α → α → Int} (h : Ordr S f) (h' : Ordr S g) : Ordr S (fun x y => thenM (f x y) (g x y)) where
  swap x y sx sy := by
    have := h.swap x y sx sy
    have := h'.swap x y sx sy
    unfold thenM
    split <;> split <;> omega
  tr x y z sx sy sz := by
    intro h1 h2
    have a1 := h.tr x y z sx sy sz
    have a2 := h.strict x y z sx sy sz
    have b1 := h'.tr x y z sx sy sz
    unfold thenM at *
    by_cases e1 : f x y = 0
    · by_cases e2 : f y z = 0
      · rw [if_neg (by omega)] at h1 h2
        have s1 := h.swap x y sx sy
        have s2 := h.swap y z sy sz
        have s3 := h.swap x z sx sz
        have t1 := h.tr z y x sz sy sx (by omega) (by omega)
        have := a1 (by omega) (by omega)
        rw [if_neg (by omega)]
        exact b1 h1 h2
      · rw [if_neg (by omega)] at h1
        rw [if_pos e2] at h2
        rw [if_pos (fun h0 => e2 (a2 (by omega) h2 h0).2)]
        exact a1 (by omega) h2
    · rw [if_pos e1] at h1
      have hyz : f y z ≤ 0 := by
        by_cases e2 : f y z = 0
        · omega
        · rw [if_pos e2] at h2; exact h2
      rw [if_pos (fun h0 => e1 (a2 h1 hyz h0).1)]
      exact a1 h1 hyz
def keyAt (ks : List Bs) (i : Nat) : Bs := ks.getD i []
mutual
def remV (ord : Vl → List Nat) : Vl → Vl
  | .mk k t ks is => .mk k t (if k = 6 then (ord (.mk k t ks is)).map (keyAt ks) else []) ((ord (.mk k t ks is)).map (fun i => (remL ord is).getD i default))
def remL (ord : Vl → List Nat) : List Vl → List Vl
  | [] => []
  | v :: l => remV ord v :: remL ord l
end
/-! ### pairs in the order of their keys -/
def ins {β : Type} (f : Bs → Bs → Int) (p : Bs × β) : List (Bs × β) → List (Bs × β)
  | [] => [p]
  | q :: l => if f p.1 q.1 ≤ 0 then p :: q :: l else q :: ins f p l
def isort {β : Type} (f : Bs → Bs → Int) : List (Bs × β) → List (Bs × β)
  | [] => []
  | p :: l => ins f p (isort f l)
end Go.Proofs.YtmadgdafgkleiaaGreatDoor
namespace Go.Proofs.YtmadgdafgkleiaaGreatDoor
open Go.ChangeShapes Go.WideShapes Go.ChangeAt Go.RowKit
theorem cell_blk {w : World} {a : Addr} {v : Value} (h : w.cell? a = some v) : a.block < w.heap.size := by
  by_cases hb : a.block < w.heap.size
  · exact hb
  · unfold World.cell? at h
    rw [Array.getElem?_eq_none (by omega)] at h
    cases h
def StrsIn (w : World) (o : Option Addr) (l : List Bs) : Prop := ∀ i (h : i < l.length), ∃ b f, o = some ⟨b, f, none⟩ ∧ w.cell? ⟨b, f + i, none⟩ = some (.string (st l[i]))
theorem StrsIn.grow {w w' : World} {o : Option Addr} {l : List Bs} (h : StrsIn w o l) (hb : Below w.heap.size w w') : StrsIn w' o l := fun i hi => by
  obtain ⟨b, f, h1, h2⟩ := h i hi
  exact ⟨b, f, h1, (hb.cell (p := ⟨b, f + i, none⟩) (cell_blk h2)).trans h2⟩
theorem StrsIn.nil (w : World) (o : Option Addr) : StrsIn w o [] := fun i hi => absurd hi (Nat.not_lt_zero i)
section
variable {H : Type} {enc : TypeId × Value → H} {P : Program} {w : World} {base : Nat} {spare : Nat → Bool} {held : Bool}
end
structure SRow where
  o : Option Addr
  cap : Nat
  l : List Bs
def SRow.v (r : SRow) : Value := .slice r.o r.l.length r.cap
structure SRow.ok (w : World) (r : SRow) : Prop where
  le : r.l.length ≤ r.cap
  cp : r.cap ≤ maxLen
  rd : StrsIn w r.o r.l
theorem SRow.ok.grow {w w' : World} {r : SRow} (h : r.ok w) (hb : Below w.heap.size w w') : r.ok w' := ⟨h.le, h.cp, h.rd.grow hb⟩
def RowsIn (w : World) (o : Option Addr) (rs : List SRow) : Prop := ∀ i (h : i < rs.length), (∃ b f, o = some ⟨b, f, none⟩ ∧ w.cell? ⟨b, f + i, none⟩ = some rs[i].v) ∧ rs[i].ok w
theorem RowsIn.grow {w w' : World} {o : Option Addr} {rs : List SRow} (h : RowsIn w o rs) (hb : Below w.heap.size w w') : RowsIn w' o rs := fun i hi => by
  obtain ⟨⟨b, f, h1, h2⟩, h3⟩ := h i hi
  exact ⟨⟨b, f, h1, (hb.cell (p := ⟨b, f + i, none⟩) (cell_blk h2)).trans h2⟩, h3.grow hb⟩
inductive Vt where
  | mk (k : Int) (t : Bs) (ks : SRow) (o : Option Addr) (c : Nat) (is : List Vt)
namespace Vt
def k : Vt → Int | .mk k _ _ _ _ _ => k
def t : Vt → Bs | .mk _ t _ _ _ _ => t
def ks : Vt → SRow | .mk _ _ ks _ _ _ => ks
def o : Vt → Option Addr | .mk _ _ _ o _ _ => o
def c : Vt → Nat | .mk _ _ _ _ c _ => c
def is : Vt → List Vt | .mk _ _ _ _ _ is => is
theorem ind {P : Vt → Prop} (h : ∀ k t ks o c is, (∀ x ∈ is, P x) → P (.mk k t ks o c is)) : ∀ v, P v := fun v =>
  Vt.rec (motive_1 := P) (motive_2 := fun l => ∀ x ∈ l, P x) (fun k t ks o c is ih => h k t ks o c is ih) (fun _ hx => by cases hx)
    (fun v l hv hl x hx => by
      rcases List.mem_cons.1 hx with rfl | hx
      · exact hv
      · exact hl x hx) v
instance : Inhabited Vt := ⟨.mk 0 [] ⟨none, 0, []⟩ none 0 []⟩
def row (x : Vt) : Value := .slice x.o x.is.length x.c
def v (x : Vt) : Value := .agg #[.int .i64 x.k, .string (st x.t), x.ks.v, x.row]
end Vt
mutual
def Vt.m : Vt → Vl
  | .mk k t ks _ _ is => .mk k t ks.l (Vt.ms is)
def Vt.ms : List Vt → List Vl
  | [] => []
  | x :: l => x.m :: Vt.ms l
end
theorem Vt.ms_map : ∀ l : List Vt, Vt.ms l = l.map Vt.m
  | [] => rfl
  | x :: l => by simp only [Vt.ms, List.map_cons, Vt.ms_map l]
theorem Vt.m_mk (k : Int) (t : Bs) (ks : SRow) (o : Option Addr) (c : Nat) (is : List Vt) : (Vt.mk k t ks o c is).m = .mk k t ks.l (is.map Vt.m) := by simp only [Vt.m, Vt.ms_map]
mutual
def Vt.rows : Vt → List Nat
  | .mk _ _ _ o c is => (Value.slice o is.length c).ownBlock.toList ++ Vt.rowss is
def Vt.rowss : List Vt → List Nat
  | [] => []
  | x :: l => x.rows ++ Vt.rowss l
end
structure ItemAt (w : World) (b p : Nat) (x : Vt) : Prop where
  c0 : w.cell? ⟨b, p, none⟩ = some (.int .i64 x.k)
  c1 : w.cell? ⟨b, p + 1, none⟩ = some (.string (st x.t))
  c2 : w.cell? ⟨b, p + 2, none⟩ = some x.ks.v
  c3 : w.cell? ⟨b, p + 3, none⟩ = some x.row
inductive Vt.Ok (w : World) : Vt → Prop
  | mk (k : Int) (t : Bs) (ks : SRow) (o : Option Addr) (c : Nat) (is : List Vt) (hk : -9223372036854775808 ≤ k ∧ k ≤ 9223372036854775807) (ht : t.length ≤ maxLen) (hks : ks.ok w) (hkt : ∀ x ∈ ks.l, x.length ≤ maxLen)
      (hl : is.length ≤ c) (hc : c ≤ maxLen) (hat : ∀ i (h : i < is.length), ∃ b f, o = some ⟨b, f, none⟩ ∧ ItemAt w b (f + i * 4) is[i]) (hi : ∀ i (h : i < is.length), Vt.Ok w is[i]) : Vt.Ok w (.mk k t ks o c is)
section
variable {w w' : World} {k : Int} {t : Bs} {ks : SRow} {o : Option Addr} {c : Nat} {is : List Vt} {x : Vt}
theorem Vt.Ok.hk (h : Vt.Ok w (.mk k t ks o c is)) : -9223372036854775808 ≤ k ∧ k ≤ 9223372036854775807 := by cases h; assumption
theorem Vt.Ok.ht (h : Vt.Ok w (.mk k t ks o c is)) : t.length ≤ maxLen := by cases h; assumption
theorem Vt.Ok.hks (h : Vt.Ok w (.mk k t ks o c is)) : ks.ok w := by cases h; assumption
theorem Vt.Ok.hkt (h : Vt.Ok w (.mk k t ks o c is)) : ∀ x ∈ ks.l, x.length ≤ maxLen := by cases h; assumption
theorem Vt.Ok.hl (h : Vt.Ok w (.mk k t ks o c is)) : is.length ≤ c := by cases h; assumption
theorem Vt.Ok.hc (h : Vt.Ok w (.mk k t ks o c is)) : c ≤ maxLen := by cases h; assumption
theorem Vt.Ok.at_ (h : Vt.Ok w (.mk k t ks o c is)) (i : Nat) (hi : i < is.length) : ∃ b f, o = some ⟨b, f, none⟩ ∧ ItemAt w b (f + i * 4) is[i] := by cases h with | mk _ _ _ _ _ _ _ _ _ _ _ _ hat _ => exact hat i hi
theorem Vt.Ok.item (h : Vt.Ok w (.mk k t ks o c is)) (i : Nat) (hi : i < is.length) : Vt.Ok w is[i] := by cases h with | mk _ _ _ _ _ _ _ _ _ _ _ _ _ hi' => exact hi' i hi
theorem ItemAt.grow {b p : Nat} (h : ItemAt w b p x) (hb : Below w.heap.size w w') : ItemAt w' b p x :=
  ⟨(hb.cell (p := ⟨b, p, none⟩) (cell_blk h.c0)).trans h.c0, (hb.cell (p := ⟨b, p + 1, none⟩) (cell_blk h.c1)).trans h.c1, (hb.cell (p := ⟨b, p + 2, none⟩) (cell_blk h.c2)).trans h.c2, (hb.cell (p := ⟨b, p + 3, none⟩) (cell_blk h.c3)).trans h.c3⟩
theorem Vt.Ok.grow (h : Vt.Ok w x) (hb : Below w.heap.size w w') : Vt.Ok w' x := by
  induction h with
  | mk k t ks o c is hk ht hks hkt hl hc hat _ ih =>
    refine .mk k t ks o c is hk ht (hks.grow hb) hkt hl hc (fun i hi => ?_) ih
    obtain ⟨b, f, h1, h2⟩ := hat i hi
    exact ⟨b, f, h1, h2.grow hb⟩
end
/-! ### trees of a call's own -/
def vtC (l : List Vt) : List Value := l.flatMap fun x => [.int .i64 x.k, .string (st x.t), x.ks.v, x.row]
theorem vtC_at (l : List Vt) : ∀ (i : Nat) (h : i < l.length), (vtC l)[i * 4]? = some (.int .i64 l[i].k) ∧ (vtC l)[i * 4 + 1]? = some (.string (st l[i].t)) ∧ (vtC l)[i * 4 + 2]? = some l[i].ks.v ∧ (vtC l)[i * 4 + 3]? = some l[i].row := by
  induction l with
  | nil => intro i h; exact absurd h (by simp)
  | cons x l ih =>
    intro i h
    unfold vtC at ih ⊢
    rw [List.flatMap_cons]
    cases i with
    | zero => exact ⟨rfl, rfl, rfl, rfl⟩
    | succ i =>
      have := ih i (by simpa using h)
      rw [show (i + 1) * 4 = i * 4 + 1 + 1 + 1 + 1 by omega]
      simpa using this
def strC (l : List Bs) : List Value := l.map fun x => .string (st x)
inductive Vt.Own (tV tS : TypeId) (B : Nat) (S : Nat → Prop) (w : World) : Vt → Prop
  | mk (k : Int) (t : Bs) (ks : SRow) (o : Option Addr) (c : Nat) (is : List Vt) (hks : w.ownsRow B tS 1 ks.v ks.l.length (strC ks.l)) (hkb : ∀ g, ks.v.ownBlock = some g → S g)
      (hrow : w.ownsRow B tV 4 (.slice o is.length c) is.length (vtC is)) (hrb : ∀ g, (Value.slice o is.length c).ownBlock = some g → S g)
      (hi : ∀ i (h : i < is.length), Vt.Own tV tS B S w is[i]) : Vt.Own tV tS B S w (.mk k t ks o c is)
theorem Vt.Own.kept {tV tS : TypeId} {B : Nat} {S : Nat → Prop} {w w' : World} {x : Vt} {row : Option Nat} (h : Vt.Own tV tS B S w x) (hg : w.grownBy w' row) (hr : ∀ g, row = some g → ¬ S g) : Vt.Own tV tS B S w' x := by
  induction h with
  | mk k t ks o c is hks hkb hrow hrb _ ih =>
    refine .mk k t ks o c is (hks.kept hg ?_) hkb (hrow.kept hg ?_) hrb ih
    · cases hv : ks.v.ownBlock with
      | none => exact .inl rfl
      | some g => exact .inr (fun e => hr g e.symm (hkb g hv))
    · cases hv : (Value.slice o is.length c).ownBlock with
      | none => exact .inl rfl
      | some g => exact .inr (fun e => hr g e.symm (hrb g hv))
theorem Vt.Own.kind {tV tS : TypeId} {B : Nat} {S S' : Nat → Prop} {w : World} {x : Vt} (h : Vt.Own tV tS B S w x) (hs : ∀ g, S g → S' g) : Vt.Own tV tS B S' w x := by
  induction h with
  | mk k t ks o c is hks hkb hrow hrb _ ih => exact .mk k t ks o c is hks (fun g hg => hs g (hkb g hg)) hrow (fun g hg => hs g (hrb g hg)) ih
theorem grownBy_below {w w' : World} (hb : Below w.heap.size w w') (row : Option Nat) : w.grownBy w' row := ⟨hb.os, hb.tape, hb.output, hb.size, fun k hk _ => hb.block k hk⟩
theorem Vt.Own.grow {tV tS : TypeId} {B : Nat} {S : Nat → Prop} {w w' : World} {x : Vt} (h : Vt.Own tV tS B S w x) (hb : Below w.heap.size w w') : Vt.Own tV tS B S w' x :=
  h.kept (grownBy_below hb none) (fun g hg => by cases hg)
theorem own_cap {w : World} {B e size n c : Nat} {o : Option Addr} {xs : List Value} (h : w.ownsRow B e size (.slice o n c) n xs) : n ≤ c ∧ c ≤ maxLen := by
  rcases h.2 with ⟨h1, h0⟩ | ⟨g, cap, cur, hv, _, _, hc, hm, _⟩
  · injection h1 with _ _ e; subst e; exact ⟨by omega, Nat.zero_le _⟩
  · injection hv with _ _ e; subst e; exact ⟨hc, hm⟩
theorem own_keys {w : World} {B e : Nat} {ks : SRow} (h : w.ownsRow B e 1 ks.v ks.l.length (strC ks.l)) : ks.ok w := by
  obtain ⟨o, c, l⟩ := ks
  unfold SRow.v at h
  simp only at h
  obtain ⟨h1, h2⟩ := own_cap h
  refine ⟨h1, h2, fun i hi => ?_⟩
  simp only at hi ⊢
  rcases h.2 with ⟨h1, h0⟩ | ⟨g, cap, cur, hv, _, _, _, _, _⟩
  · omega
  · injection hv with ho
    have hc := h.cells (g := g) (by rw [ho]; rfl) i (.string (st l[i])) (by unfold strC; simp [hi])
    rw [Addr.add_lit, Nat.zero_add] at hc
    exact ⟨g, 0, ho, by rw [Nat.zero_add]; exact hc⟩
structure Vl.Rng (v : Vl) : Prop where
  hk : -9223372036854775808 ≤ v.k ∧ v.k ≤ 9223372036854775807
  ht : v.t.length ≤ maxLen
  hkt : ∀ x ∈ v.ks, x.length ≤ maxLen
theorem Vt.Own.ok {tV tS : TypeId} {B : Nat} {S : Nat → Prop} {w : World} {x : Vt} (h : Vt.Own tV tS B S w x) (hr : x.m.All Vl.Rng) : Vt.Ok w x := by
  induction h with
  | mk k t ks o c is hks hkb hrow hrb _ ih =>
    rw [Vt.m_mk] at hr
    cases hr with
    | mk _ _ _ _ hr hri =>
      obtain ⟨h1, h2⟩ := own_cap hrow
      refine .mk k t ks o c is hr.hk hr.ht (own_keys hks) hr.hkt h1 h2 (fun i hi => ?_) (fun i hi => ih i hi (hri _ (List.mem_map.2 ⟨_, List.getElem_mem hi, rfl⟩)))
      rcases hrow.2 with ⟨h1, h0⟩ | ⟨g, cap, cur, hv, _, _, _, _, _⟩
      · omega
      · injection hv with ho
        obtain ⟨q0, q1, q2, q3⟩ := vtC_at is i hi
        have hc0 := hrow.cells (g := g) (by rw [ho]; rfl) (i * 4) _ q0
        have hc1 := hrow.cells (g := g) (by rw [ho]; rfl) (i * 4 + 1) _ q1
        have hc2 := hrow.cells (g := g) (by rw [ho]; rfl) (i * 4 + 2) _ q2
        have hc3 := hrow.cells (g := g) (by rw [ho]; rfl) (i * 4 + 3) _ q3
        rw [Addr.add_lit, Nat.zero_add] at hc0 hc1 hc2 hc3
        exact ⟨g, 0, ho, ⟨by rw [Nat.zero_add]; exact hc0, by rw [Nat.zero_add]; exact hc1, by rw [Nat.zero_add]; exact hc2, by rw [Nat.zero_add]; exact hc3⟩⟩
end Go.Proofs.YtmadgdafgkleiaaGreatDoor
namespace Go.Proofs.YtmadgdafgkleiaaGreatDoor
def stepAny (x : Bs) : Bool := x == [42]
def isRow (x : Bs) : Bool := x == [42, 42]
def orScan (a : Bool) : List Bool → List Bool
  | [] => []
  | x :: l => (a || x) :: orScan (a || x) l
def andRow (x : Bs) : List Bool → List Bs → List Bool
  | f :: fs, y :: ys => (f && (stepAny x || x == y)) :: andRow x fs ys
  | _, _ => []
def rowM (path : List Bs) (x : Bs) (fits : List Bool) : List Bool := if isRow x = true then orScan false fits else false :: andRow x fits path
def fit0 (n : Nat) : List Bool := true :: List.replicate n false
def fitsM (path : List Bs) (p : List Bs) : List Bool := p.foldl (fun f x => rowM path x f) (fit0 path.length)
def matchM (p path : List Bs) : Bool := if 200 < p.length ∨ 200 < path.length then false else (fitsM path p).getD path.length false
theorem orScan_len : ∀ (l : List Bool) (a : Bool), (orScan a l).length = l.length
  | [], _ => rfl
  | x :: l, a => by simp [orScan, orScan_len l]
theorem andRow_len (x : Bs) : ∀ (fs : List Bool) (ys : List Bs), (andRow x fs ys).length = min fs.length ys.length
  | f :: fs, y :: ys => by simp [andRow, andRow_len x fs ys]
  | [], _ => by simp [andRow]
  | _ :: _, [] => by simp [andRow]
theorem rowM_len {path : List Bs} {x : Bs} {fits : List Bool} (h : fits.length = path.length + 1) : (rowM path x fits).length = path.length + 1 := by
  unfold rowM
  split
  · rw [orScan_len, h]
  · rw [List.length_cons, andRow_len, h]; omega
theorem fit0_len (n : Nat) : (fit0 n).length = n + 1 := by simp [fit0]
theorem foldl_len (path : List Bs) : ∀ (p : List Bs) (f : List Bool), f.length = path.length + 1 → (p.foldl (fun f x => rowM path x f) f).length = path.length + 1
  | [], _, h => h
  | _ :: p, _, h => foldl_len path p _ (rowM_len h)
theorem fitsM_len (path p : List Bs) : (fitsM path p).length = path.length + 1 := foldl_len path p _ (fit0_len _)
def Glob : List Bs → List Bs → Prop
  | [], l => l = []
  | x :: p, l => if isRow x = true then ∃ k, k ≤ l.length ∧ Glob p (l.drop k) else ∃ y l', l = y :: l' ∧ (stepAny x = true ∨ x = y) ∧ Glob p l'
theorem Glob.all (a : List Bs) : Glob [[42, 42]] a := by
  unfold Glob
  rw [if_pos (by decide)]
  exact ⟨a.length, Nat.le_refl _, by simp [Glob]⟩
theorem Glob.plain : ∀ {p : List Bs} (l : List Bs), (∀ x ∈ p, x ≠ [42] ∧ x ≠ [42, 42]) → (Glob p l ↔ p = l)
  | [], l, _ => by unfold Glob; exact ⟨fun h => h.symm, fun h => h.symm⟩
  | x :: p, l, h => by
    obtain ⟨h1, h2⟩ := h x List.mem_cons_self
    have ih := fun l => Glob.plain (p := p) l (fun y hy => h y (List.mem_cons_of_mem _ hy))
    unfold Glob
    rw [if_neg (by unfold isRow; simpa using h2)]
    have h3 : ¬ stepAny x = true := by unfold stepAny; simpa using h1
    constructor
    · rintro ⟨y, l', rfl, hy, hg⟩
      rw [(ih l').1 hg, hy.resolve_left h3]
    · intro e
      subst e
      exact ⟨x, p, rfl, .inr rfl, (ih p).2 rfl⟩
end Go.Proofs.YtmadgdafgkleiaaGreatDoor
namespace Go.Proofs.YtmadgdafgkleiaaGreatDoor
def psub (c : UInt8) (new l : Bs) : Bs := l.flatMap fun b => if b = c then new else [b]
def pesc (x : Bs) : Bs := psub 47 [126, 49] (psub 126 [126, 48] x)
def ptext (p : List Bs) : Bs := p.flatMap fun x => 47 :: pesc x
def un2 (d c : UInt8) : Bs → Bs
  | [] => []
  | [b] => [b]
  | a :: b :: r => if a = 126 ∧ b = d then c :: un2 d c r else a :: un2 d c (b :: r)
def unesc (x : Bs) : Bs := un2 48 126 (un2 49 47 x)
def tildeOk : Bs → Bool
  | [] => true
  | [b] => b != 126
  | a :: b :: r => (a != 126 || b == 48 || b == 49) && tildeOk (b :: r)
def cutAt (c : UInt8) : Bs → List Bs
  | [] => [[]]
  | b :: r => if b = c then [] :: cutAt c r else match cutAt c r with
    | [] => [[b]]
    | x :: l => (b :: x) :: l
theorem psub_app (c : UInt8) (new a b : Bs) : psub c new (a ++ b) = psub c new a ++ psub c new b := List.flatMap_append
theorem pesc_app (a b : Bs) : pesc (a ++ b) = pesc a ++ pesc b := by unfold pesc; rw [psub_app, psub_app]
theorem pesc_nil : pesc [] = [] := rfl
theorem pesc_one (b : UInt8) : pesc [b] = if b = 126 then [126, 48] else if b = 47 then [126, 49] else [b] := by
  unfold pesc psub
  by_cases h : b = 126
  · subst h; decide
  · simp [h]
theorem pesc_cons (b : UInt8) (x : Bs) : pesc (b :: x) = (if b = 126 then [126, 48] else if b = 47 then [126, 49] else [b]) ++ pesc x := by
  have := pesc_app [b] x
  rw [pesc_one] at this
  exact this
theorem pesc_slash : ∀ x : Bs, 47 ∉ pesc x
  | [] => by simp [pesc_nil]
  | b :: x => by
    rw [pesc_cons]
    have := pesc_slash x
    intro h
    rw [List.mem_append] at h
    rcases h with h | h
    · by_cases h1 : b = 126
      · rw [if_pos h1] at h; revert h; decide
      · rw [if_neg h1] at h
        by_cases h2 : b = 47
        · rw [if_pos h2] at h; revert h; decide
        · rw [if_neg h2] at h
          simp at h
          exact h2 h.symm
    · exact this h
theorem un2_skip {d c b : UInt8} {r : Bs} (h : b ≠ 126) : un2 d c (b :: r) = b :: un2 d c r := by
  cases r with
  | nil => rfl
  | cons a r => rw [un2, if_neg (fun e => h e.1)]
theorem un2_hit {d c : UInt8} {r : Bs} : un2 d c (126 :: d :: r) = c :: un2 d c r := by rw [un2, if_pos ⟨rfl, rfl⟩]
theorem un2_miss {d c e : UInt8} {r : Bs} (h : e ≠ d) (h2 : e ≠ 126) : un2 d c (126 :: e :: r) = 126 :: e :: un2 d c r := by
  rw [un2, if_neg (fun e => h e.2), un2_skip h2]
theorem unesc_pesc : ∀ x : Bs, unesc (pesc x) = x
  | [] => rfl
  | b :: x => by
    have ih := unesc_pesc x
    rw [pesc_cons]
    unfold unesc at ih ⊢
    by_cases h1 : b = 126
    · rw [if_pos h1]
      subst h1
      show un2 48 126 (un2 49 47 (126 :: 48 :: pesc x)) = _
      rw [un2_miss (by decide) (by decide), un2_hit, ih]
    · rw [if_neg h1]
      by_cases h2 : b = 47
      · rw [if_pos h2]
        subst h2
        show un2 48 126 (un2 49 47 (126 :: 49 :: pesc x)) = _
        rw [un2_hit, un2_skip (by decide), ih]
      · rw [if_neg h2]
        show un2 48 126 (un2 49 47 (b :: pesc x)) = _
        rw [un2_skip h1, un2_skip h1, ih]
theorem tildeOk_skip {b : UInt8} {r : Bs} (h : b ≠ 126) : tildeOk (b :: r) = tildeOk r := by
  cases r with
  | nil => simp [tildeOk, h]
  | cons a r => simp [tildeOk, h]
theorem tildeOk_esc {b : UInt8} {r : Bs} (h : b = 48 ∨ b = 49) : tildeOk (126 :: b :: r) = tildeOk r := by
  have hb : b ≠ 126 := by rcases h with h | h <;> (subst h; decide)
  rw [tildeOk, tildeOk_skip hb]
  rcases h with h | h <;> simp [h]
theorem tildeOk_pesc : ∀ (x r : Bs), tildeOk (pesc x ++ r) = tildeOk r
  | [], r => rfl
  | b :: x, r => by
    have ih := tildeOk_pesc x r
    rw [pesc_cons]
    by_cases h1 : b = 126
    · rw [if_pos h1]
      show tildeOk (126 :: 48 :: (pesc x ++ r)) = _
      rw [tildeOk_esc (.inl rfl), ih]
    · rw [if_neg h1]
      by_cases h2 : b = 47
      · rw [if_pos h2]
        show tildeOk (126 :: 49 :: (pesc x ++ r)) = _
        rw [tildeOk_esc (.inr rfl), ih]
      · rw [if_neg h2]
        show tildeOk (b :: (pesc x ++ r)) = _
        rw [tildeOk_skip h1, ih]
theorem tildeOk_ptext : ∀ p : List Bs, tildeOk (ptext p) = true
  | [] => rfl
  | x :: p => by
    have ih := tildeOk_ptext p
    unfold ptext at ih ⊢
    rw [List.flatMap_cons, List.cons_append, tildeOk_skip (by decide), tildeOk_pesc, ih]
theorem count_pesc (x : Bs) : (pesc x).count 47 = 0 := List.count_eq_zero.2 (pesc_slash x)
theorem count_ptext : ∀ p : List Bs, (ptext p).count 47 = p.length
  | [] => rfl
  | x :: p => by
    have ih := count_ptext p
    unfold ptext at ih ⊢
    rw [List.flatMap_cons, List.cons_append, List.count_cons_self, List.count_append, count_pesc, ih, List.length_cons]
    omega
theorem cutAt_ne (c : UInt8) : ∀ l : Bs, cutAt c l ≠ []
  | [] => by simp [cutAt]
  | b :: r => by
    unfold cutAt
    split
    · simp
    · split <;> simp
theorem cutAt_app (c : UInt8) : ∀ (x : Bs), c ∉ x → ∀ r, cutAt c (x ++ c :: r) = x :: cutAt c r
  | [], _, r => by simp [cutAt]
  | b :: x, h, r => by
    have hb : b ≠ c := fun e => h (by simp [e])
    have ih := cutAt_app c x (fun e => h (by simp [e])) r
    rw [List.cons_append, cutAt, if_neg hb, ih]
theorem cutAt_none (c : UInt8) : ∀ (x : Bs), c ∉ x → cutAt c x = [x]
  | [], _ => rfl
  | b :: x, h => by
    have hb : b ≠ c := fun e => h (by simp [e])
    rw [cutAt, if_neg hb, cutAt_none c x (fun e => h (by simp [e]))]
theorem cutAt_ptext : ∀ (x : Bs) (p : List Bs), cutAt 47 ((ptext (x :: p)).drop 1) = (x :: p).map pesc
  | x, [] => by
    unfold ptext
    simp only [List.flatMap_cons, List.flatMap_nil, List.append_nil, List.drop_succ_cons, List.drop_zero, List.map_cons, List.map_nil]
    exact cutAt_none 47 _ (pesc_slash x)
  | x, y :: p => by
    have ih := cutAt_ptext y p
    unfold ptext at ih ⊢
    rw [List.flatMap_cons]
    simp only [List.cons_append, List.drop_succ_cons, List.drop_zero]
    rw [List.flatMap_cons] at ih ⊢
    simp only [List.cons_append, List.drop_succ_cons, List.drop_zero] at ih ⊢
    rw [cutAt_app 47 _ (pesc_slash x), ih]
    rfl
theorem cut_unesc (x : Bs) (p : List Bs) : (cutAt 47 ((ptext (x :: p)).drop 1)).map unesc = x :: p := by
  rw [cutAt_ptext, List.map_map]
  have : (unesc ∘ pesc) = id := funext fun y => unesc_pesc y
  rw [this, List.map_id]
theorem index_skip {old : Bs} {a : UInt8} {l : Bs} (h : old.isPrefixOf (a :: l) = false) : Lib.index (a :: l) old = if Lib.index l old == -1 then -1 else Lib.index l old + 1 := by
  rw [Lib.index, if_neg (by rw [h]; decide)]
theorem count_skip {old : Bs} {a : UInt8} {l : Bs} (h0 : old ≠ []) (h : old.isPrefixOf (a :: l) = false) : Lib.count (a :: l) old = Lib.count l old := by
  have e := index_skip h
  have hg := Lib.index_ge l old
  by_cases hm : Lib.index l old = -1
  · rw [Lib.count_miss hm, Lib.count_miss (by rw [e, hm]; rfl)]
  · obtain ⟨i, hi⟩ : ∃ i : Nat, Lib.index l old = i := ⟨(Lib.index l old).toNat, by omega⟩
    have e2 : Lib.index (a :: l) old = ((i + 1 : Nat) : Int) := by rw [e, if_neg (by simpa using hm), hi]; omega
    rw [Lib.count_hit h0 hi, Lib.count_hit h0 e2]
    congr 2
    rw [show i + 1 + old.length = (i + old.length) + 1 by omega]
    rfl
theorem replaceK_skip {old new : Bs} {a : UInt8} {l : Bs} (h : old.isPrefixOf (a :: l) = false) : ∀ k, Lib.replaceK old new k (a :: l) = a :: Lib.replaceK old new k l
  | 0 => rfl
  | k + 1 => by
    have e := index_skip h
    have hg := Lib.index_ge l old
    by_cases hm : Lib.index l old = -1
    · have e2 : Lib.index (a :: l) old = -1 := by rw [e, hm]; rfl
      rw [Lib.replaceK, if_pos (by rw [e2]; rfl), Lib.replaceK, if_pos (by rw [hm]; rfl)]
    · obtain ⟨i, hi⟩ : ∃ i : Nat, Lib.index l old = i := ⟨(Lib.index l old).toNat, by omega⟩
      have e2 : Lib.index (a :: l) old = ((i + 1 : Nat) : Int) := by rw [e, if_neg (by simpa using hm), hi]; omega
      rw [Lib.replaceK_hit _ _ _ _ _ hi, Lib.replaceK_hit _ _ _ _ _ e2, show i + 1 + old.length = (i + old.length) + 1 by omega]
      simp
theorem replaceK_two (d c : UInt8) : ∀ (n : Nat) (l : Bs), l.length ≤ n → Lib.replaceK [126, d] [c] (Lib.count l [126, d]) l = un2 d c l
  | _, [], _ => rfl
  | _, [b], _ => by
    have h : ([126, d] : Bs).isPrefixOf [b] = false := by simp [List.isPrefixOf]
    rw [count_skip (by simp) h, replaceK_skip h]
    rfl
  | 0, a :: b :: r, h => absurd h (by simp)
  | n + 1, a :: b :: r, hn => by
    simp only [List.length_cons] at hn
    by_cases h : a = 126 ∧ b = d
    · obtain ⟨rfl, rfl⟩ := h
      have hi : Lib.index (126 :: b :: r) [126, b] = ((0 : Nat) : Int) := by rw [Lib.index, if_pos (by simp [List.isPrefixOf])]; rfl
      rw [Lib.count_hit (by simp) hi, Nat.add_comm, Lib.replaceK_hit _ _ _ _ _ hi, un2_hit]
      simp only [List.take_zero, List.nil_append, List.length_cons, List.length_nil, Nat.zero_add, List.drop_succ_cons, List.drop_zero, List.singleton_append]
      rw [replaceK_two b c n r (by omega)]
    · have hp : ([126, d] : Bs).isPrefixOf (a :: b :: r) = false := by
        simp only [List.isPrefixOf, Bool.and_true]
        by_cases ha : a = 126
        · have hb : ¬ d = b := fun e => h ⟨ha, e.symm⟩
          simp [hb]
        · have ha' : ¬ 126 = a := fun e => ha e.symm
          simp [ha']
      rw [count_skip (by simp) hp, replaceK_skip hp, replaceK_two d c n (b :: r) (by simp; omega), un2, if_neg h]
theorem replaceAll_two (d c : UInt8) (l : Bs) : Lib.replaceAll l [126, d] [c] = un2 d c l := by
  unfold Lib.replaceAll Lib.replace
  rw [if_neg (by simp)]
  unfold Lib.replaceNum
  rw [if_pos (.inl (by decide))]
  exact replaceK_two d c _ l (Nat.le_refl _)
theorem replaceK_psub (c : UInt8) (new : Bs) : ∀ l : Bs, Lib.replaceK [c] new (Lib.count l [c]) l = psub c new l
  | [] => rfl
  | b :: l => by
    have ih := replaceK_psub c new l
    by_cases hb : b = c
    · subst hb
      have hi : Lib.index (b :: l) [b] = ((0 : Nat) : Int) := by rw [Lib.index, if_pos (by simp [List.isPrefixOf])]; rfl
      rw [Lib.count_hit (by simp) hi, Nat.add_comm, Lib.replaceK_hit _ _ _ _ _ hi]
      simp only [List.take_zero, List.nil_append, List.length_cons, List.length_nil, Nat.zero_add, List.drop_succ_cons, List.drop_zero]
      rw [ih]
      unfold psub
      rw [List.flatMap_cons, if_pos rfl]
    · have hp : ([c] : Bs).isPrefixOf (b :: l) = false := by
        have : ¬ c = b := fun e => hb e.symm
        simp [List.isPrefixOf, this]
      rw [count_skip (by simp) hp, replaceK_skip hp, ih]
      unfold psub
      rw [List.flatMap_cons, if_neg hb]
      rfl
theorem replaceAll_psub (c : UInt8) (new l : Bs) (h : new ≠ [c]) : Lib.replaceAll l [c] new = psub c new l := by
  unfold Lib.replaceAll Lib.replace
  rw [if_neg (by simpa using fun e => h e.symm)]
  unfold Lib.replaceNum
  rw [if_pos (.inl (by decide)), replaceK_psub]
theorem psub_len (c : UInt8) (new : Bs) (hn : new.length ≤ 2) : ∀ l : Bs, (psub c new l).length ≤ 2 * l.length
  | [] => Nat.le_refl _
  | b :: l => by
    have ih := psub_len c new hn l
    unfold psub at ih ⊢
    rw [List.flatMap_cons, List.length_append, List.length_cons]
    split
    · omega
    · rw [List.length_singleton]; omega
theorem pesc_len : ∀ x : Bs, (pesc x).length ≤ 2 * x.length
  | [] => Nat.le_refl _
  | b :: x => by
    have ih := pesc_len x
    rw [pesc_cons, List.length_append, List.length_cons]
    split
    · rw [List.length_cons, List.length_singleton]; omega
    · split
      · rw [List.length_cons, List.length_singleton]; omega
      · rw [List.length_singleton]; omega
theorem un2_len (d c : UInt8) : ∀ (n : Nat) (l : Bs), l.length ≤ n → (un2 d c l).length ≤ l.length
  | _, [], _ => Nat.le_refl _
  | _, [b], _ => Nat.le_refl _
  | 0, a :: b :: r, h => absurd h (by simp)
  | n + 1, a :: b :: r, hn => by
    simp only [List.length_cons] at hn
    rw [un2]
    split
    · have := un2_len d c n r (by omega)
      simp; omega
    · have := un2_len d c n (b :: r) (by simp; omega)
      simp at this ⊢; omega
end Go.Proofs.YtmadgdafgkleiaaGreatDoor

