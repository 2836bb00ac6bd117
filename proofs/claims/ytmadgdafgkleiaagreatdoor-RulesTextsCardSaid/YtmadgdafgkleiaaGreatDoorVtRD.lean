/-
  WALKS over trees: the document's Size and Depth; few, short, Few.
  WALK: the document's Equal of two trees.
  WALKS: value.walk over whatever is asked; value.Size, value.Depth.
  WALKS: value.asTheyStand; what remake makes.
  WALK: value.remake, whatever the order of a node's items.
-/
import Derived.Test.YtmadgdafgkleiaaGreatDoorBas
import Derived.Test.YtmadgdafgkleiaaGreatDoorProg
import Derived.BigQuiet
import Derived.Deep.RegionHeld3
import Derived.Deep.RegionWith
import Derived.Deep.CutRange
import Derived.IntWalk
import Derived.Laws.OwnMore
import Derived.Maps.AppendAt
import Derived.Deep.RegionLaw
namespace Go.Proofs.YtmadgdafgkleiaaGreatDoor
open Go.RowKit
def IPost (n : Int) (w : World) (e : Ending) (w' : World) : Prop := e = .returned (.int .i64 n) ∧ Below w.heap.size w w'
def BPost (b : Bool) (w : World) (e : Ending) (w' : World) : Prop := e = .returned (.bool b) ∧ Below w.heap.size w w'
def FewP (x : Vl) (left deep : Int) (w : World) (e : Ending) (w' : World) : Prop :=
  ∃ n : Int, e = .returned (.int .i64 n) ∧ (-9223372036854775808 ≤ n ∧ n ≤ left) ∧ (0 ≤ n → n + (x.weight : Int) = left ∧ deep + (x.depth : Int) ≤ 61) ∧ Below w.heap.size w w'
def Sht (v : Vl) : Prop := v.t.length ≤ 2048 ∧ ∀ x ∈ v.ks, x.length ≤ 1024
def ShtP (x : Vl) (w : World) (e : Ending) (w' : World) : Prop := ∃ v : Bool, e = .returned (.bool v) ∧ (v = true → x.All Sht) ∧ Below w.heap.size w w'
structure FewV (x : Vl) (most : Nat) : Prop where
  wt : x.weight ≤ most
  dp : x.depth ≤ 61
  sh : x.All Sht
def FewPost (x : Vl) (most : Nat) (w : World) (e : Ending) (w' : World) : Prop := ∃ v : Bool, e = .returned (.bool v) ∧ (v = true → FewV x most) ∧ Below w.heap.size w w'
def EqPost (a b : Vl) (w : World) (e : Ending) (w' : World) : Prop := ∃ v : Bool, e = .returned (.bool v) ∧ (v = true ↔ a = b) ∧ Below w.heap.size w w'
structure Kp (C : Nat → Prop) (w w' : World) : Prop where
  os : w'.os = w.os
  tape : w'.tape = w.tape
  output : w'.output = w.output
  size : w.heap.size ≤ w'.heap.size
  block : ∀ k, k < w.heap.size → ¬ C k → w'.heap[k]? = w.heap[k]?
section
variable {C : Nat → Prop} {w w' w'' : World}
theorem Kp.refl (C : Nat → Prop) (w : World) : Kp C w w := ⟨rfl, rfl, rfl, Nat.le_refl _, fun _ _ _ => rfl⟩
theorem Kp.trans (h : Kp C w w') (h' : Kp C w' w'') : Kp C w w'' :=
  ⟨h'.os.trans h.os, h'.tape.trans h.tape, h'.output.trans h.output, Nat.le_trans h.size h'.size, fun k hk hc => (h'.block k (Nat.lt_of_lt_of_le hk h.size) hc).trans (h.block k hk hc)⟩
theorem Kp.of (h : Below w.heap.size w w') : Kp C w w' := ⟨h.os, h.tape, h.output, h.size, fun k hk _ => h.block k hk⟩
theorem Kp.below {B : Nat} {a : World} (h : Kp C w w') (hB : ∀ k, C k → B ≤ k) (hb : Below B a w) (hs : B ≤ w.heap.size) : Below B a w' :=
  ⟨h.os.trans hb.os, h.tape.trans hb.tape, h.output.trans hb.output, Nat.le_trans hb.size h.size, fun k hk => (h.block k (Nat.lt_of_lt_of_le hk hs) (fun hc => by have := hB k hc; omega)).trans (hb.block k hk)⟩
theorem Kp.whole {g : Nat} {t : TypeId} {cs : Array Value} (h : Kp C w w') (hw : Whole w g t cs) (hg : ¬ C g) : Whole w' g t cs := (h.block g hw.lt hg).trans hw
theorem Kp.mono {C' : Nat → Prop} (h : Kp C w w') (hc : ∀ k, C k → C' k) : Kp C' w w' := ⟨h.os, h.tape, h.output, h.size, fun k hk hn => h.block k hk (fun e => hn (hc k e))⟩
theorem Kp.set (w : World) (p : Addr) (u : Value) (hp : C p.block) : Kp C w (w.setCell p u) :=
  ⟨rfl, rfl, rfl, by simp [World.setCell], fun k _ hn => Below.heap_setCell w p u k (fun e => hn (by rw [e]; exact hp))⟩
end
structure Asks (w0 : World) (C : Nat → Prop) (m0 : Nat) (I : List (Vl × Nat) → World → Prop) : Prop where
  c0 : ∀ k, C k → w0.heap.size ≤ k ∧ k < m0
  below : ∀ pre W, I pre W → Below w0.heap.size w0 W ∧ m0 ≤ W.heap.size
  grow : ∀ pre W W', I pre W → Below W.heap.size W W' → I pre W'
def AskPost (C : Nat → Prop) (I : List (Vl × Nat) → World → Prop) (b : Bool) (pre : List (Vl × Nat)) (w : World) (e : Ending) (w' : World) : Prop := e = .returned (.bool b) ∧ I pre w' ∧ Kp C w w'
def CntI (w0 : World) (g : Nat) (pre : List (Vl × Nat)) (W : World) : Prop := Below w0.heap.size w0 W ∧ Whole W g 3 #[.int .i64 (pre.length : Int)]
theorem CntI.step {w0 W V0 : World} {g : Nat} {pre : List (Vl × Nat)} (h : CntI w0 g pre W) (hg0 : w0.heap.size ≤ g) (hb : Below W.heap.size W V0) (y : Vl × Nat) {m : Int} (hm : m = (pre.length : Int) + 1) : CntI w0 g (pre ++ [y]) (V0.setCell ⟨g, 0, none⟩ (.int .i64 m)) ∧ Kp (fun k => k = g) W (V0.setCell ⟨g, 0, none⟩ (.int .i64 m)) := by
  have hk : Kp (fun k => k = g) W (V0.setCell ⟨g, 0, none⟩ (.int .i64 m)) := (Kp.of hb).trans (Kp.set V0 _ _ rfl)
  refine ⟨⟨hk.below (fun k hk => by subst hk; exact hg0) h.1 h.1.size, ?_⟩, hk⟩
  have h1 := (h.2.grow hb).put 0 (.int .i64 m)
  have e : (#[Value.int .i64 (pre.length : Int)]).setIfInBounds 0 (.int .i64 m) = #[.int .i64 ((pre ++ [y]).length : Int)] := by
    rw [List.length_append, List.length_singleton, hm]; rfl
  rw [e] at h1
  exact h1
structure DepI (w0 : World) (g h : Nat) (pre : List (Vl × Nat)) (W : World) : Prop where
  bl : Below w0.heap.size w0 W
  cn : Whole W g 3 #[.int .i64 (pre.length : Int)]
  dp : Whole W h 3 #[.int .i64 (deepest pre : Int)]
theorem DepI.step {w0 W V0 : World} {g h : Nat} {pre : List (Vl × Nat)} (hI : DepI w0 g h pre W) (hg0 : w0.heap.size ≤ g) (hgh : g < h) (hb : Below W.heap.size W V0) (y : Vl × Nat) {m q : Int} (hm : m = (pre.length : Int) + 1) (hq : q = max (deepest pre : Int) (y.2 : Int)) :
    DepI w0 g h (pre ++ [y]) ((V0.setCell ⟨g, 0, none⟩ (.int .i64 m)).setCell ⟨h, 0, none⟩ (.int .i64 q)) ∧ Kp (fun k => k = g ∨ k = h) W ((V0.setCell ⟨g, 0, none⟩ (.int .i64 m)).setCell ⟨h, 0, none⟩ (.int .i64 q)) := by
  have hk : Kp (fun k => k = g ∨ k = h) W ((V0.setCell ⟨g, 0, none⟩ (.int .i64 m)).setCell ⟨h, 0, none⟩ (.int .i64 q)) := ((Kp.of hb).trans (Kp.set V0 _ _ (.inl rfl))).trans (Kp.set _ _ _ (.inr rfl))
  refine ⟨⟨hk.below (fun k hk => by rcases hk with rfl | rfl <;> omega) hI.bl hI.bl.size, ?_, ?_⟩, hk⟩
  · have h1 := ((hI.cn.grow hb).put 0 (.int .i64 m)).far (p := ⟨h, 0, none⟩) (show g ≠ h by omega) (.int .i64 q)
    have e : (#[Value.int .i64 (pre.length : Int)]).setIfInBounds 0 (.int .i64 m) = #[.int .i64 ((pre ++ [y]).length : Int)] := by
      rw [List.length_append, List.length_singleton, hm]; rfl
    rw [e] at h1
    exact h1
  · have h1 := ((hI.dp.grow hb).far (p := ⟨g, 0, none⟩) (show h ≠ g by omega) (.int .i64 m)).put 0 (.int .i64 q)
    have e : (#[Value.int .i64 (deepest pre : Int)]).setIfInBounds 0 (.int .i64 q) = #[.int .i64 (deepest (pre ++ [y]) : Int)] := by
      have h2 : deepest (pre ++ [y]) = max (deepest pre) y.2 := by rw [deepest_append, deepest_cons]; simp [deepest]
      rw [h2, hq]
      have h3 : ((max (deepest pre) y.2 : Nat) : Int) = max (deepest pre : Int) (y.2 : Int) := by omega
      rw [h3]; rfl
    rw [e] at h1
    exact h1
theorem info_partsV {t : TypeId} {z : Value} {s b : Nat} (h : (Tryz.prog.info? t).map (fun i => (i.zero, i.size, i.bytes)) = some (some z, s, b)) : ∃ i, Tryz.prog.info? t = some i ∧ i.zero = some z ∧ i.size = s ∧ i.bytes = b := by
  cases hi : Tryz.prog.info? t with
  | none => rw [hi] at h; cases h
  | some i =>
    rw [hi] at h
    simp only [Option.map_some, Option.some.injEq, Prod.mk.injEq] at h
    exact ⟨i, rfl, h.1, h.2.1, h.2.2⟩
theorem infoSv : (Tryz.prog.info? 9).map (fun i => (i.zero, i.size, i.bytes)) = some (some (.string ⟨#[]⟩), 1, 16) := by kernel_rfl
def natC (l : List Nat) : List Value := l.map fun (i : Nat) => Value.int .i64 (i : Int)
def NatsPost (B : Nat) (l : List Nat) (w : World) (e : Ending) (w' : World) : Prop := ∃ v, e = .returned v ∧ w'.ownsRow B 3 1 v l.length (natC l) ∧ Below w.heap.size w w'
def rowN (n j : Nat) : Array Value := ((List.range n).map fun a => if a < j then Value.int .i64 (a : Int) else .int .i64 0).toArray
theorem below_put {B : Nat} {a w : World} (h : Below B a w) {g : Nat} (hg : B ≤ g) (i : Nat) (u : Value) : Below B a (w.setCell ⟨g, i, none⟩ u) := h.setCell (by simp only; exact hg) u
theorem Vt.Own.lt {tV tS : TypeId} {B : Nat} {S : Nat → Prop} {w : World} {x : Vt} (h : Vt.Own tV tS B S w x) : Vt.Own tV tS B (fun g => S g ∧ B ≤ g ∧ g < w.heap.size) w x := by
  induction h with
  | mk k t ks o c is hks hkb hrow hrb _ ih => exact .mk k t ks o c is hks (fun g hg => ⟨hkb g hg, hks.lt g hg⟩) hrow (fun g hg => ⟨hrb g hg, hrow.lt g hg⟩) ih
theorem row_base {w : World} {B B' e size n : Nat} {v : Value} {xs : List Value} (h : w.ownsRow B e size v n xs) (hb : B' ≤ B) : w.ownsRow B' e size v n xs := by
  refine ⟨h.1, ?_⟩
  rcases h.2 with h2 | ⟨g, cap, cur, h1, h2, h3⟩
  · exact .inl h2
  · exact .inr ⟨g, cap, cur, h1, Nat.le_trans hb h2, h3⟩
theorem Vt.Own.base {tV tS : TypeId} {B B' : Nat} {S : Nat → Prop} {w : World} {x : Vt} (h : Vt.Own tV tS B S w x) (hb : B' ≤ B) : Vt.Own tV tS B' S w x := by
  induction h with
  | mk k t ks o c is hks hkb hrow hrb _ ih => exact .mk k t ks o c is (row_base hks hb) hkb (row_base hrow hb) hrb ih
theorem row_setV {w : World} {B e size n : Nat} {v : Value} {xs : List Value} (h : w.ownsRow B e size v n xs) {g i : Nat} (hg : g < B) (u : Value) : (w.setCell ⟨g, i, none⟩ u).ownsRow B e size v n xs :=
  h.kept (row := some g) ⟨rfl, rfl, rfl, by simp [World.setCell], fun k _ hne => Below.heap_setCell w ⟨g, i, none⟩ u k (fun e => hne (by rw [e]))⟩ (by
    cases hv : v.ownBlock with
    | none => exact .inl rfl
    | some b => exact .inr (fun e => by have h1 := (h.lt b hv).1; have h2 := Option.some.inj e; omega))
theorem Vt.Own.set {tV tS : TypeId} {B : Nat} {S : Nat → Prop} {w : World} {x : Vt} (h : Vt.Own tV tS B S w x) {g i : Nat} (hg : g < B) (u : Value) : Vt.Own tV tS B S (w.setCell ⟨g, i, none⟩ u) x := by
  induction h with
  | mk k t ks o c is hks hkb hrow hrb _ ih => exact .mk k t ks o c is (row_setV hks hg u) hkb (row_setV hrow hg u) hrb ih
theorem ownT' {w : World} {B e n size : Nat} {v : Value} {xs : List Value} (h : w.ownsRow B e size v n xs) : ∀ g, v.ownBlock = some g → ∃ cur, w.heap[g]? = some (.cells cur e (0, 0)) := fun g hg => by
  rcases h.2 with ⟨rfl, _⟩ | ⟨g', cap', cur, rfl, hb, hg', _⟩
  · cases hg
  · have : g' = g := by simpa [Value.ownBlock] using hg
    subst this
    exact ⟨cur, hg'⟩
section
variable {B : Nat} {W w w' : World} {gv gr gw : Nat} {cv : Array Value} {ov : Value} {od : List Nat} {k : Int} {t : Bs} {kr : SRow} {o : Option Addr} {c : Nat} {ys : List Vt}
end
structure OrdOk (ord : Vl → List Nat) (G : Vl → Prop) : Prop where
  lt : ∀ k t ks is, G (.mk k t ks is) → ∀ i ∈ ord (.mk k t ks is), i < is.length
  keys : ∀ k t ks is, G (.mk k t ks is) → k = 6 → ks.length = is.length
  len : ∀ v, G v → (ord v).length ≤ 1000000
  items : ∀ k t ks is, G (.mk k t ks is) → ∀ x ∈ is, G x
end Go.Proofs.YtmadgdafgkleiaaGreatDoor

