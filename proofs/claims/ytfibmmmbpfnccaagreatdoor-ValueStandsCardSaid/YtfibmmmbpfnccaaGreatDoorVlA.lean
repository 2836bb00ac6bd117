/-
  PLAIN MATHEMATICS, NO PROGRAM: trees: how great, how deep, gone over one by one; orders of rows; pairs in the order of their keys.
-/
import Derived.Test.YtfibmmmbpfnccaaGreatDoorNumMath
namespace Go.Proofs.YtfibmmmbpfnccaaGreatDoor

/-- a tree, without its memory -/
inductive Vl where
  | mk (k : Int) (t : Bs) (ks : List Bs) (is : List Vl)
namespace Vl
def k : Vl → Int | .mk k _ _ _ => k
def t : Vl → Bs | .mk _ t _ _ => t
def ks : Vl → List Bs | .mk _ _ ks _ => ks
def is : Vl → List Vl | .mk _ _ _ is => is
theorem eta (v : Vl) : v = .mk v.k v.t v.ks v.is := by cases v; rfl
theorem ind {P : Vl → Prop} (h : ∀ k t ks is, (∀ x ∈ is, P x) → P (.mk k t ks is)) : ∀ v, P v := fun v =>
  Vl.rec (motive_1 := P) (motive_2 := fun l => ∀ x ∈ l, P x) (fun k t ks is ih => h k t ks is ih) (fun _ hx => by cases hx)
    (fun v l hv hl x hx => by
      rcases List.mem_cons.1 hx with rfl | hx
      · exact hv
      · exact hl x hx) v
instance : Inhabited Vl := ⟨.mk 0 [] [] []⟩
end Vl
/-- all nodes are so -/
inductive Vl.All (p : Vl → Prop) : Vl → Prop
  | mk (k : Int) (t : Bs) (ks : List Bs) (is : List Vl) (h : p (.mk k t ks is)) (hi : ∀ x ∈ is, Vl.All p x) : Vl.All p (.mk k t ks is)
theorem Vl.All.here {p : Vl → Prop} {v : Vl} (h : v.All p) : p v := by cases h; assumption
theorem Vl.All.items {p : Vl → Prop} {k : Int} {t : Bs} {ks : List Bs} {is : List Vl} (h : (Vl.mk k t ks is).All p) : ∀ x ∈ is, x.All p := by cases h; assumption
theorem Vl.All.mono {p q : Vl → Prop} (h : ∀ v, p v → q v) : ∀ {v : Vl}, v.All p → v.All q := fun {v} => Vl.ind (P := fun v => v.All p → v.All q) (fun k t ks is ih hv => .mk k t ks is (h _ hv.here) (fun x hx => ih x hx (hv.items x hx))) v
mutual
def Vl.size : Vl → Nat
  | .mk _ _ _ is => 1 + Vl.sizes is
def Vl.sizes : List Vl → Nat
  | [] => 0
  | v :: l => v.size + Vl.sizes l
end
mutual
def Vl.depth : Vl → Nat
  | .mk _ _ _ is => Vl.depths is + 1
def Vl.depths : List Vl → Nat
  | [] => 0
  | v :: l => max v.depth (Vl.depths l)
end
mutual
/-- nodes and keys -/
def Vl.weight : Vl → Nat
  | .mk _ _ ks is => 1 + ks.length + Vl.weights is
def Vl.weights : List Vl → Nat
  | [] => 0
  | v :: l => v.weight + Vl.weights l
end
mutual
def Vl.allB (p : Vl → Bool) : Vl → Bool
  | .mk k t ks is => p (.mk k t ks is) && Vl.allsB p is
def Vl.allsB (p : Vl → Bool) : List Vl → Bool
  | [] => true
  | v :: l => v.allB p && Vl.allsB p l
end
theorem Vl.allsB_iff {p : Vl → Bool} : ∀ {l : List Vl}, Vl.allsB p l = true ↔ ∀ x ∈ l, x.allB p = true
  | [] => by simp [Vl.allsB]
  | v :: l => by simp only [Vl.allsB, Bool.and_eq_true, List.mem_cons, forall_eq_or_imp, Vl.allsB_iff (l := l)]
theorem Vl.allB_and {p q : Vl → Bool} (v : Vl) : v.allB (fun x => p x && q x) = (v.allB p && v.allB q) := by
  have key : ∀ v : Vl, v.allB (fun x => p x && q x) = true ↔ v.allB p = true ∧ v.allB q = true := Vl.ind (fun k t ks is ih => by
    simp only [Vl.allB, Bool.and_eq_true, Vl.allsB_iff]
    constructor
    · rintro ⟨⟨h1, h2⟩, h3⟩
      exact ⟨⟨h1, fun x hx => ((ih x hx).1 (h3 x hx)).1⟩, h2, fun x hx => ((ih x hx).1 (h3 x hx)).2⟩
    · rintro ⟨⟨h1, h2⟩, h3, h4⟩
      exact ⟨⟨h1, h3⟩, fun x hx => (ih x hx).2 ⟨h2 x hx, h4 x hx⟩⟩)
  rw [Bool.eq_iff_iff, key v, Bool.and_eq_true]
theorem Vl.sizes_le {l : List Vl} : ∀ x ∈ l, x.size ≤ Vl.sizes l := by
  induction l with
  | nil => intro x hx; cases hx
  | cons v l ih =>
    intro x hx
    simp only [Vl.sizes]
    rcases List.mem_cons.1 hx with rfl | hx
    · omega
    · have := ih x hx; omega
theorem Vl.depths_le {l : List Vl} : ∀ x ∈ l, x.depth ≤ Vl.depths l := by
  induction l with
  | nil => intro x hx; cases hx
  | cons v l ih =>
    intro x hx
    simp only [Vl.depths]
    rcases List.mem_cons.1 hx with rfl | hx
    · omega
    · have := ih x hx; omega
theorem Vl.weights_le {l : List Vl} : ∀ x ∈ l, x.weight ≤ Vl.weights l := by
  induction l with
  | nil => intro x hx; cases hx
  | cons v l ih =>
    intro x hx
    simp only [Vl.weights]
    rcases List.mem_cons.1 hx with rfl | hx
    · omega
    · have := ih x hx; omega
theorem Vl.size_pos (v : Vl) : 1 ≤ v.size := by cases v; simp only [Vl.size]; omega
theorem Vl.depth_pos (v : Vl) : 1 ≤ v.depth := by cases v; simp only [Vl.depth]; omega
theorem Vl.sizes_weights {l : List Vl} (h : ∀ x ∈ l, x.size ≤ x.weight) : Vl.sizes l ≤ Vl.weights l := by
  induction l with
  | nil => exact Nat.le_refl _
  | cons v l ih =>
    have h1 := h v List.mem_cons_self
    have h2 := ih (fun x hx => h x (List.mem_cons_of_mem _ hx))
    simp only [Vl.sizes, Vl.weights]; omega
theorem Vl.size_weight : ∀ v : Vl, v.size ≤ v.weight := Vl.ind (fun k t ks is ih => by
  have := Vl.sizes_weights ih
  simp only [Vl.size, Vl.weight]; omega)
theorem Vl.depths_sizes {l : List Vl} (h : ∀ x ∈ l, x.depth ≤ x.size) : Vl.depths l ≤ Vl.sizes l := by
  induction l with
  | nil => exact Nat.le_refl _
  | cons v l ih =>
    have h1 := h v List.mem_cons_self
    have h2 := ih (fun x hx => h x (List.mem_cons_of_mem _ hx))
    simp only [Vl.sizes, Vl.depths]; omega
theorem Vl.depth_size : ∀ v : Vl, v.depth ≤ v.size := Vl.ind (fun k t ks is ih => by
  have := Vl.depths_sizes ih
  simp only [Vl.size, Vl.depth]; omega)
theorem Vl.sizes_length (l : List Vl) : l.length ≤ Vl.sizes l := by
  induction l with
  | nil => exact Nat.le_refl _
  | cons v l ih => have := v.size_pos; simp only [Vl.sizes, List.length_cons]; omega
theorem Vl.sizes_append (a b : List Vl) : Vl.sizes (a ++ b) = Vl.sizes a + Vl.sizes b := by
  induction a with
  | nil => simp [Vl.sizes]
  | cons v l ih => simp only [List.cons_append, Vl.sizes, ih]; omega
theorem Vl.depths_append (a b : List Vl) : Vl.depths (a ++ b) = max (Vl.depths a) (Vl.depths b) := by
  induction a with
  | nil => simp [Vl.depths]
  | cons v l ih => simp only [List.cons_append, Vl.depths, ih]; omega
theorem Vl.weights_append (a b : List Vl) : Vl.weights (a ++ b) = Vl.weights a + Vl.weights b := by
  induction a with
  | nil => simp [Vl.weights]
  | cons v l ih => simp only [List.cons_append, Vl.weights, ih]; omega

mutual
/-- the nodes of a tree, each with its depth, each ahead of its items -/
def Vl.visits (d : Nat) : Vl → List (Vl × Nat)
  | .mk k t ks is => (.mk k t ks is, d) :: Vl.visitsL (d + 1) is
def Vl.visitsL (d : Nat) : List Vl → List (Vl × Nat)
  | [] => []
  | v :: l => v.visits d ++ Vl.visitsL d l
end
theorem Vl.visitsL_length {l : List Vl} {d : Nat} (h : ∀ x ∈ l, (x.visits d).length = x.size) : (Vl.visitsL d l).length = Vl.sizes l := by
  induction l with
  | nil => rfl
  | cons v l ih =>
    simp only [Vl.visitsL, Vl.sizes, List.length_append, h v List.mem_cons_self, ih (fun x hx => h x (List.mem_cons_of_mem _ hx))]
theorem Vl.visits_length : ∀ (v : Vl) (d : Nat), (v.visits d).length = v.size := Vl.ind (fun k t ks is ih d => by
  simp only [Vl.visits, Vl.size, List.length_cons, Vl.visitsL_length (fun x hx => ih x hx (d + 1))]; omega)
theorem Vl.visitsL_all {l : List Vl} {d : Nat} {q : Vl × Nat → Prop} : (∀ x ∈ Vl.visitsL d l, q x) ↔ ∀ v ∈ l, ∀ x ∈ v.visits d, q x := by
  induction l with
  | nil => simp [Vl.visitsL]
  | cons v l ih =>
    simp only [Vl.visitsL, List.mem_append, or_imp, forall_and, ih, List.mem_cons]
    simp only [forall_eq]
theorem Vl.depths_iff {l : List Vl} {n : Nat} : Vl.depths l ≤ n ↔ ∀ x ∈ l, x.depth ≤ n := by
  induction l with
  | nil => simp [Vl.depths]
  | cons v l ih => simp only [Vl.depths, List.mem_cons, forall_eq_or_imp, ← ih]; omega
/-- all nodes are so, and none is too deep -/
theorem Vl.visits_all (p : Vl → Bool) (m : Nat) : ∀ (v : Vl) (d : Nat), (∀ x ∈ v.visits d, x.2 ≤ m ∧ p x.1 = true) ↔ d + v.depth ≤ m + 1 ∧ v.allB p = true := Vl.ind (fun k t ks is ih d => by
  simp only [Vl.visits, List.mem_cons, forall_eq_or_imp, Vl.visitsL_all, Vl.depth, Vl.allB, Bool.and_eq_true, Vl.allsB_iff]
  constructor
  · rintro ⟨⟨h1, h2⟩, h3⟩
    have h4 : ∀ x ∈ is, x.depth ≤ m - d := fun x hx => by
      have := ((ih x hx (d + 1)).1 (h3 x hx)).1; omega
    have := Vl.depths_iff.2 h4
    exact ⟨by omega, h2, fun x hx => ((ih x hx (d + 1)).1 (h3 x hx)).2⟩
  · rintro ⟨h1, h2, h3⟩
    refine ⟨⟨by omega, h2⟩, fun x hx => (ih x hx (d + 1)).2 ⟨?_, h3 x hx⟩⟩
    have := Vl.depths_le x hx
    omega)
/-- the deepest of the visited ones -/
def deepest (l : List (Vl × Nat)) : Nat := l.foldl (fun m x => max m x.2) 0
theorem deepest_acc (l : List (Vl × Nat)) : ∀ m, l.foldl (fun m x => max m x.2) m = max m (deepest l) := by
  induction l with
  | nil => intro m; simp [deepest]
  | cons x l ih =>
    intro m
    unfold deepest
    simp only [List.foldl_cons]
    rw [ih, ih (max 0 x.2)]
    omega
theorem deepest_append (a b : List (Vl × Nat)) : deepest (a ++ b) = max (deepest a) (deepest b) := by
  have : deepest (a ++ b) = b.foldl (fun m x => max m x.2) (deepest a) := by unfold deepest; rw [List.foldl_append]
  rw [this, deepest_acc]
theorem deepest_cons (x : Vl × Nat) (b : List (Vl × Nat)) : deepest (x :: b) = max x.2 (deepest b) := by
  have : deepest (x :: b) = b.foldl (fun m x => max m x.2) (max 0 x.2) := rfl
  rw [this, deepest_acc]; omega
theorem deepest_visitsL {l : List Vl} {d : Nat} (h : ∀ x ∈ l, deepest (x.visits d) = d + x.depth - 1) : deepest (Vl.visitsL d l) = if l = [] then 0 else d + Vl.depths l - 1 := by
  induction l with
  | nil => rfl
  | cons v l ih =>
    simp only [Vl.visitsL, deepest_append, h v List.mem_cons_self, ih (fun x hx => h x (List.mem_cons_of_mem _ hx)), Vl.depths]
    have := v.depth_pos
    cases l with
    | nil => simp [Vl.depths]
    | cons => simp; omega
theorem deepest_visits : ∀ (v : Vl) (d : Nat), deepest (v.visits d) = d + v.depth - 1 := Vl.ind (fun k t ks is ih d => by
  simp only [Vl.visits, deepest_cons, deepest_visitsL (fun x hx => ih x hx (d + 1)), Vl.depth]
  cases is with
  | nil => simp [Vl.depths]
  | cons => simp only [reduceCtorEq, if_false]; omega)
/-- asked one by one, until a no: was it yes for all, and which ones were asked -/
def goV (ok : List (Vl × Nat) → Vl × Nat → Bool) : List (Vl × Nat) → List (Vl × Nat) → Bool × List (Vl × Nat)
  | pre, [] => (true, pre)
  | pre, x :: l => if ok pre x = true then goV ok (pre ++ [x]) l else (false, pre ++ [x])
theorem goV_append (ok : List (Vl × Nat) → Vl × Nat → Bool) : ∀ (a pre b : List (Vl × Nat)), goV ok pre (a ++ b) = if (goV ok pre a).1 = true then goV ok (goV ok pre a).2 b else goV ok pre a
  | [], pre, b => by simp [goV]
  | x :: a, pre, b => by
    by_cases h : ok pre x = true
    · have e : goV ok pre (x :: a) = goV ok (pre ++ [x]) a := by simp only [goV, if_pos h]
      have e2 : goV ok pre (x :: (a ++ b)) = goV ok (pre ++ [x]) (a ++ b) := by simp only [goV, if_pos h]
      rw [List.cons_append, e, e2, goV_append ok a]
    · have e : goV ok pre (x :: a) = (false, pre ++ [x]) := by simp only [goV, if_neg h]
      have e2 : goV ok pre (x :: (a ++ b)) = (false, pre ++ [x]) := by simp only [goV, if_neg h]
      rw [List.cons_append, e, e2]; simp
theorem goV_yes (ok : List (Vl × Nat) → Vl × Nat → Bool) : ∀ (l pre : List (Vl × Nat)), (goV ok pre l).1 = true → (goV ok pre l).2 = pre ++ l
  | [], pre, _ => by simp [goV]
  | x :: a, pre, h => by
    by_cases h1 : ok pre x = true
    · have e : goV ok pre (x :: a) = goV ok (pre ++ [x]) a := by simp only [goV, if_pos h1]
      rw [e] at h ⊢
      rw [goV_yes ok a _ h]; simp
    · have e : goV ok pre (x :: a) = (false, pre ++ [x]) := by simp only [goV, if_neg h1]
      rw [e] at h; cases h
theorem goV_all (ok : List (Vl × Nat) → Vl × Nat → Bool) : ∀ (l pre : List (Vl × Nat)), (goV ok pre l).1 = true ↔ ∀ i (h : i < l.length), ok (pre ++ l.take i) l[i] = true
  | [], pre => by simp [goV]
  | x :: a, pre => by
    simp only [goV]
    by_cases h1 : ok pre x = true
    · rw [if_pos h1, goV_all ok a]
      constructor
      · intro h i hi
        cases i with
        | zero => simpa using h1
        | succ i => have := h i (by simpa using hi); simpa using this
      · intro h i hi
        have := h (i + 1) (by simpa using hi)
        simpa using this
    · rw [if_neg h1]
      constructor
      · intro h; cases h
      · intro h
        have := h 0 (by simp)
        exact absurd (by simpa using this) h1
/-- within a number of nodes and a depth, and each as asked -/
theorem goV_fits (p : Vl → Bool) (n m : Nat) (v : Vl) (d : Nat) : (goV (fun pre x => decide (pre.length + 1 ≤ n) && (decide (x.2 ≤ m) && p x.1)) [] (v.visits d)).1 = (decide (v.size ≤ n) && (decide (d + v.depth ≤ m + 1) && v.allB p)) := by
  rw [Bool.eq_iff_iff, goV_all]
  simp only [Bool.and_eq_true, decide_eq_true_eq, List.nil_append, List.length_take]
  rw [← Vl.visits_all p m v d]
  constructor
  · intro h
    refine ⟨?_, fun x hx => ?_⟩
    · have h0 := v.visits_length d
      have h1 := v.size_pos
      have := (h (v.size - 1) (by omega)).1
      omega
    · obtain ⟨i, hi, rfl⟩ := List.mem_iff_getElem.1 hx
      exact (h i hi).2
  · rintro ⟨h1, h2⟩ i hi
    have h0 := v.visits_length d
    exact ⟨by omega, h2 _ (List.getElem_mem hi)⟩

/-! ### rows ordered one by one -/
def lexM {α β : Type} (f : α → β → Int) : List α → List β → Int
  | [], [] => 0
  | [], _ :: _ => -1
  | _ :: _, [] => 1
  | x :: a, y :: b => if f x y ≠ 0 then f x y else lexM f a b
theorem lexM_map {α β γ δ : Type} (f : γ → δ → Int) (g : α → γ) (h : β → δ) : ∀ (a : List α) (b : List β), lexM f (a.map g) (b.map h) = lexM (fun x y => f (g x) (h y)) a b
  | [], [] => rfl
  | [], _ :: _ => rfl
  | _ :: _, [] => rfl
  | x :: a, y :: b => by simp only [List.map_cons, lexM, lexM_map f g h a b]
theorem lexM_bd {α β : Type} {f : α → β → Int} : ∀ (a : List α) (b : List β), (∀ x ∈ a, ∀ y, -1 ≤ f x y ∧ f x y ≤ 1) → -1 ≤ lexM f a b ∧ lexM f a b ≤ 1
  | [], [], _ => by simp [lexM]
  | [], _ :: _, _ => by simp [lexM]
  | _ :: _, [], _ => by simp [lexM]
  | x :: a, y :: b, h => by
    have h1 := h x List.mem_cons_self y
    have h2 := lexM_bd (f := f) a b (fun z hz => h z (List.mem_cons_of_mem _ hz))
    simp only [lexM]
    split
    · exact h1
    · exact h2
theorem lexM_zero {α : Type} {f : α → α → Int} : ∀ (a b : List α), (∀ x ∈ a, ∀ y ∈ b, f x y = 0 → x = y) → lexM f a b = 0 → a = b
  | [], [], _, _ => rfl
  | [], _ :: _, _, h => by simp [lexM] at h
  | _ :: _, [], _, h => by simp [lexM] at h
  | x :: a, y :: b, h, h1 => by
    simp only [lexM] at h1
    by_cases e : f x y = 0
    · rw [if_neg (by omega)] at h1
      rw [h x List.mem_cons_self y List.mem_cons_self e, lexM_zero a b (fun p hp q hq => h p (List.mem_cons_of_mem _ hp) q (List.mem_cons_of_mem _ hq)) h1]
    · rw [if_pos e] at h1; exact absurd h1 e
/-- an order of those of a kind: turned round, and passed on -/
structure Ordr {α : Type} (S : α → Prop) (f : α → α → Int) : Prop where
  swap : ∀ x y, S x → S y → f y x = - f x y
  tr : ∀ x y z, S x → S y → S z → f x y ≤ 0 → f y z ≤ 0 → f x z ≤ 0
theorem Ordr.strict {α : Type} {S : α → Prop} {f : α → α → Int} (h : Ordr S f) (x y z : α) (sx : S x) (sy : S y) (sz : S z) (h1 : f x y ≤ 0) (h2 : f y z ≤ 0) (h3 : f x z = 0) : f x y = 0 ∧ f y z = 0 := by
  have s1 := h.swap x y sx sy
  have s2 := h.swap y z sy sz
  have s3 := h.swap x z sx sz
  have t1 := h.tr y z x sy sz sx h2 (by omega)
  have t2 := h.tr z x y sz sx sy (by omega) h1
  omega
theorem lexM_swap {α : Type} {S : α → Prop} {f : α → α → Int} (h : Ordr S f) : ∀ (a b : List α), (∀ x ∈ a, S x) → (∀ x ∈ b, S x) → lexM f b a = - lexM f a b
  | [], [], _, _ => rfl
  | [], _ :: _, _, _ => rfl
  | _ :: _, [], _, _ => rfl
  | x :: a, y :: b, ha, hb => by
    have h1 := h.swap x y (ha x List.mem_cons_self) (hb y List.mem_cons_self)
    have h2 := lexM_swap h a b (fun z hz => ha z (List.mem_cons_of_mem _ hz)) (fun z hz => hb z (List.mem_cons_of_mem _ hz))
    simp only [lexM, h1, h2]
    by_cases h0 : f x y = 0
    · rw [if_neg (by omega), if_neg (by omega)]
    · rw [if_pos (by omega), if_pos h0]
theorem lexM_trans {α : Type} {S : α → Prop} {f : α → α → Int} (h : Ordr S f) : ∀ (a b c : List α), (∀ x ∈ a, S x) → (∀ x ∈ b, S x) → (∀ x ∈ c, S x) →
    lexM f a b ≤ 0 → lexM f b c ≤ 0 → lexM f a c ≤ 0
  | [], [], _, _, _, _, _, h2 => h2
  | [], _ :: _, [], _, _, _, _, _ => by simp [lexM]
  | [], _ :: _, _ :: _, _, _, _, _, _ => by simp [lexM]
  | _ :: _, [], _, _, _, _, h1, _ => by simp [lexM] at h1
  | _ :: _, _ :: _, [], _, _, _, _, h2 => by simp [lexM] at h2
  | x :: a, y :: b, z :: c, ha, hb, hc, h1, h2 => by
    have sx := ha x List.mem_cons_self
    have sy := hb y List.mem_cons_self
    have sz := hc z List.mem_cons_self
    have h3 := h.tr x y z sx sy sz
    have h3' := h.strict x y z sx sy sz
    have h4 := lexM_trans h a b c (fun z hz => ha z (List.mem_cons_of_mem _ hz)) (fun z hz => hb z (List.mem_cons_of_mem _ hz)) (fun z hz => hc z (List.mem_cons_of_mem _ hz))
    simp only [lexM] at h1 h2 ⊢
    by_cases e1 : f x y = 0
    · by_cases e2 : f y z = 0
      · rw [if_neg (by omega)] at h1 h2
        split
        · exact h3 (by omega) (by omega)
        · exact h4 h1 h2
      · rw [if_neg (by omega)] at h1
        rw [if_pos e2] at h2
        rw [if_pos (fun h0 => e2 (h3' (by omega) h2 h0).2)]
        exact h3 (by omega) h2
    · rw [if_pos e1] at h1
      have hyz : f y z ≤ 0 := by
        by_cases e2 : f y z = 0
        · omega
        · rw [if_pos e2] at h2; exact h2
      rw [if_pos (fun h0 => e1 (h3' h1 hyz h0).1)]
      exact h3 h1 hyz
theorem Ordr.lex {α : Type} {S : α → Prop} {f : α → α → Int} (h : Ordr S f) : Ordr (fun l => ∀ x ∈ l, S x) (lexM f) where
  swap a b sa sb := lexM_swap h a b sa sb
  tr a b c sa sb sc := lexM_trans h a b c sa sb sc
theorem Ordr.map {α β : Type} {S : α → Prop} {f : α → α → Int} (h : Ordr S f) {R : β → Prop} (g : β → α) (hR : ∀ b, R b → S (g b)) : Ordr R (fun a b => f (g a) (g b)) where
  swap x y rx ry := h.swap _ _ (hR x rx) (hR y ry)
  tr x y z rx ry rz := h.tr _ _ _ (hR x rx) (hR y ry) (hR z rz)
/-- first by one order, then by another -/
def thenM (a b : Int) : Int := if a ≠ 0 then a else b
theorem Ordr.then {α : Type} {S : α → Prop} {f g : α → α → Int} (h : Ordr S f) (h' : Ordr S g) : Ordr S (fun x y => thenM (f x y) (g x y)) where
  swap x y sx sy := by
    have := h.swap x y sx sy
    have := h'.swap x y sx sy
    unfold thenM
    split <;> split <;> omega
  tr x y z sx sy sz := by
    intro h1 h2
    have a1 := h.tr x y z sx sy sz
    have a2 := h.strict x y z sx sy sz
    have b1 := h'.tr x y z sx sy sz
    unfold thenM at *
    by_cases e1 : f x y = 0
    · by_cases e2 : f y z = 0
      · rw [if_neg (by omega)] at h1 h2
        have s1 := h.swap x y sx sy
        have s2 := h.swap y z sy sz
        have s3 := h.swap x z sx sz
        have t1 := h.tr z y x sz sy sx (by omega) (by omega)
        have := a1 (by omega) (by omega)
        rw [if_neg (by omega)]
        exact b1 h1 h2
      · rw [if_neg (by omega)] at h1
        rw [if_pos e2] at h2
        rw [if_pos (fun h0 => e2 (a2 (by omega) h2 h0).2)]
        exact a1 (by omega) h2
    · rw [if_pos e1] at h1
      have hyz : f y z ≤ 0 := by
        by_cases e2 : f y z = 0
        · omega
        · rw [if_pos e2] at h2; exact h2
      rw [if_pos (fun h0 => e1 (a2 h1 hyz h0).1)]
      exact a1 h1 hyz

def keyAt (ks : List Bs) (i : Nat) : Bs := ks.getD i []
theorem keyAt_lt {ks : List Bs} {i : Nat} (h : i < ks.length) : keyAt ks i = ks[i] := by unfold keyAt; simp [h]
mutual
/-- a tree made anew, the items of each node in an order -/
def remV (ord : Vl → List Nat) : Vl → Vl
  | .mk k t ks is => .mk k t (if k = 6 then (ord (.mk k t ks is)).map (keyAt ks) else []) ((ord (.mk k t ks is)).map (fun i => (remL ord is).getD i default))
def remL (ord : Vl → List Nat) : List Vl → List Vl
  | [] => []
  | v :: l => remV ord v :: remL ord l
end
theorem remL_map (ord : Vl → List Nat) : ∀ l : List Vl, remL ord l = l.map (remV ord)
  | [] => rfl
  | v :: l => by simp only [remL, List.map_cons, remL_map ord l]
/-! ### pairs in the order of their keys -/
def ins {β : Type} (f : Bs → Bs → Int) (p : Bs × β) : List (Bs × β) → List (Bs × β)
  | [] => [p]
  | q :: l => if f p.1 q.1 ≤ 0 then p :: q :: l else q :: ins f p l
def isort {β : Type} (f : Bs → Bs → Int) : List (Bs × β) → List (Bs × β)
  | [] => []
  | p :: l => ins f p (isort f l)
theorem ins_perm {β : Type} (f : Bs → Bs → Int) (p : Bs × β) : ∀ l, (ins f p l).Perm (p :: l)
  | [] => List.Perm.refl _
  | q :: l => by
    unfold ins
    split
    · exact List.Perm.refl _
    · exact (List.Perm.cons q (ins_perm f p l)).trans (List.Perm.swap p q l)
theorem isort_perm {β : Type} (f : Bs → Bs → Int) : ∀ l : List (Bs × β), (isort f l).Perm l
  | [] => List.Perm.refl _
  | p :: l => (ins_perm f p _).trans (List.Perm.cons p (isort_perm f l))
theorem ins_sorted {β : Type} {f : Bs → Bs → Int} (h : Ordr (fun _ => True) f) (p : Bs × β) : ∀ l : List (Bs × β), l.Pairwise (fun a b => f a.1 b.1 ≤ 0) → (ins f p l).Pairwise (fun a b => f a.1 b.1 ≤ 0)
  | [], _ => by simp [ins]
  | q :: l, hs => by
    unfold ins
    obtain ⟨h1, h2⟩ := List.pairwise_cons.1 hs
    split
    · rename_i hpq
      refine List.pairwise_cons.2 ⟨fun x hx => ?_, hs⟩
      rcases List.mem_cons.1 hx with rfl | hx
      · exact hpq
      · exact h.tr _ _ _ trivial trivial trivial hpq (h1 x hx)
    · rename_i hpq
      refine List.pairwise_cons.2 ⟨fun x hx => ?_, ins_sorted h p l h2⟩
      rcases List.mem_cons.1 ((ins_perm f p l).mem_iff.1 hx) with rfl | hx
      · have := h.swap x.1 q.1 trivial trivial; omega
      · exact h1 x hx
theorem isort_sorted {β : Type} {f : Bs → Bs → Int} (h : Ordr (fun _ => True) f) : ∀ l : List (Bs × β), (isort f l).Pairwise (fun a b => f a.1 b.1 ≤ 0)
  | [] => List.Pairwise.nil
  | p :: l => ins_sorted h p _ (isort_sorted h l)
theorem sorted_uniq {α : Type} (r : α → α → Prop) (hr : ∀ x y, r x y → ¬ r y x) : ∀ (a b : List α), a.Perm b → a.Pairwise r → b.Pairwise r → a = b
  | [], b, hp, _, _ => (List.nil_perm.1 hp).symm
  | x :: a, [], hp, _, _ => by cases List.perm_nil.1 hp
  | x :: a, y :: b, hp, ha, hb => by
    obtain ⟨a1, a2⟩ := List.pairwise_cons.1 ha
    obtain ⟨b1, b2⟩ := List.pairwise_cons.1 hb
    have e : x = y := by
      rcases List.mem_cons.1 (hp.mem_iff.1 List.mem_cons_self) with h | h
      · exact h
      · rcases List.mem_cons.1 (hp.mem_iff.2 List.mem_cons_self) with h' | h'
        · exact h'.symm
        · exact absurd (a1 y h') (hr _ _ (b1 x h))
    subst e
    rw [sorted_uniq r hr a b (List.Perm.cons_inv hp) a2 b2]
end Go.Proofs.YtfibmmmbpfnccaaGreatDoor
