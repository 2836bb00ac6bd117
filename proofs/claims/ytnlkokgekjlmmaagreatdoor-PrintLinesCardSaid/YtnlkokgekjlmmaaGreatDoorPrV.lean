/-
  PLAIN MATHEMATICS: a text in lines without its blanks is the one in a line; how many lines it has (PrintLines).
-/
import Derived.Test.YtnlkokgekjlmmaaGreatDoorPrU
namespace Go.Proofs.YtnlkokgekjlmmaaGreatDoor
open Go.RowKit

/-- a text without blanks and line feeds outside of strings -/
def bareM : Bool → Bs → Bs
  | _, [] => []
  | b, [c] => if ((if c = 34 then !b else b) || (c != 32 && c != 10)) = true then [c] else []
  | b, c :: d :: l => if b = true ∧ c = 92 then c :: d :: bareM b l else (if ((if c = 34 then !b else b) || (c != 32 && c != 10)) = true then [c] else []) ++ bareM (if c = 34 then !b else b) (d :: l)
theorem bare_esc (d : UInt8) (r : Bs) : bareM true (92 :: d :: r) = 92 :: d :: bareM true r := by rw [bareM, if_pos ⟨rfl, rfl⟩]
theorem bare_step {b : Bool} {c : UInt8} (h : ¬ (b = true ∧ c = 92)) (r : Bs) : bareM b (c :: r) = (if ((if c = 34 then !b else b) || (c != 32 && c != 10)) = true then [c] else []) ++ bareM (if c = 34 then !b else b) r := by
  cases r with
  | nil => rw [bareM, bareM, List.append_nil]
  | cons d l => rw [bareM, if_neg h]
theorem bare_in {c : UInt8} (h : c ≠ 34) (h' : c ≠ 92) (r : Bs) : bareM true (c :: r) = c :: bareM true r := by
  rw [bare_step (fun e => h' e.2), if_neg h]; rfl
theorem bare_out {c : UInt8} (h : c ≠ 34) (h1 : c ≠ 32) (h2 : c ≠ 10) (r : Bs) : bareM false (c :: r) = c :: bareM false r := by
  rw [bare_step (fun e => by cases e.1), if_neg h, if_pos (by simp [h1, h2])]; rfl
theorem bare_gone {c : UInt8} (h : c = 32 ∨ c = 10) (r : Bs) : bareM false (c :: r) = bareM false r := by
  rcases h with rfl | rfl <;> (rw [bare_step (fun e => by cases e.1)]; rfl)
theorem bare_34 (b : Bool) (r : Bs) : bareM b (34 :: r) = 34 :: bareM (!b) r := by
  rw [bare_step (fun e => absurd e.2 (by decide)), if_pos rfl, if_pos (by cases b <;> rfl)]; rfl
theorem bare_qb (c : UInt8) (r : Bs) : bareM true (qb c ++ r) = qb c ++ bareM true r := by
  rcases qb_shape c with ⟨d, h⟩ | ⟨x, y, h, hx, hy⟩ | ⟨h, hc, _⟩
  · rw [h]; exact bare_esc d r
  · rw [h]
    show bareM true (92 :: 117 :: 48 :: 48 :: x :: y :: r) = _
    rw [bare_esc, bare_in (by decide) (by decide), bare_in (by decide) (by decide), bare_in hx.1 hx.2, bare_in hy.1 hy.2]; rfl
  · rw [h]; exact bare_in hc.1 hc.2 r
theorem bare_quoteB (r : Bs) : ∀ l : Bs, bareM true (quoteB l ++ r) = quoteB l ++ bareM true r
  | [] => rfl
  | c :: l => by
    have e : quoteB (c :: l) = qb c ++ quoteB l := rfl
    rw [e, List.append_assoc, bare_qb, bare_quoteB r l, List.append_assoc]
theorem bare_qt {t : Bs} (h : (valid (st t)).2 = true) (r : Bs) : bareM false (qtB t ++ r) = qtB t ++ bareM false r := by
  rw [qtB_is h, List.cons_append, bare_34, List.append_assoc, show (!false) = true from rfl, bare_quoteB, List.singleton_append, bare_34]
  simp
theorem bare_run (r : Bs) : ∀ t : Bs, (∀ c ∈ t, c ≠ 34 ∧ c ≠ 32 ∧ c ≠ 10) → bareM false (t ++ r) = t ++ bareM false r
  | [], _ => rfl
  | c :: t, h => by
    obtain ⟨h1, h2, h3⟩ := h c List.mem_cons_self
    rw [List.cons_append, bare_out h1 h2 h3, bare_run r t (fun d hd => h d (List.mem_cons_of_mem _ hd))]; rfl
theorem bare_blanks (r : Bs) : ∀ n, bareM false (List.replicate n 32 ++ r) = bareM false r
  | 0 => rfl
  | n + 1 => by rw [List.replicate_succ, List.cons_append, bare_gone (.inl rfl), bare_blanks r n]
theorem bare_ln (n lev : Nat) (r : Bs) : bareM false (lnB true n lev ++ r) = bareM false r := by
  unfold lnB
  rw [if_pos rfl, List.cons_append, bare_gone (.inr rfl), bare_blanks]
/-- two rows, held together -/
inductive All2 (p : Bs → Bs → Prop) : List Bs → List Bs → Prop
  | nil : All2 p [] []
  | cons {x y : Bs} {l₁ l₂ : List Bs} : p x y → All2 p l₁ l₂ → All2 p (x :: l₁) (y :: l₂)
/-- two texts of one thing, with blanks and without -/
def Bare (x y : Bs) : Prop := ∀ r, bareM false (x ++ r) = y ++ bareM false r
theorem bare_tail (ln : Bs) (hl : ∀ r, bareM false (ln ++ r) = bareM false r) : ∀ (xs ys : List Bs), All2 Bare xs ys → ∀ r, bareM false ((xs.flatMap fun y => (44 : UInt8) :: (ln ++ y)) ++ r) = (ys.flatMap fun y => (44 : UInt8) :: ([] ++ y)) ++ bareM false r
  | _, _, .nil, r => rfl
  | _, _, .cons (l₁ := xs) (l₂ := ys) h hs, r => by
    simp only [List.flatMap_cons, List.cons_append, List.append_assoc]
    rw [bare_out (by decide) (by decide) (by decide), hl, h, bare_tail ln hl xs ys hs r]
    simp
theorem bare_comma (ln : Bs) (hl : ∀ r, bareM false (ln ++ r) = bareM false r) {xs ys : List Bs} (h : All2 Bare xs ys) (r : Bs) : bareM false (commaB ln xs ++ r) = commaB [] ys ++ bareM false r := by
  cases h with
  | nil => rfl
  | cons h hs =>
    rw [commaB, commaB]
    simp only [List.append_assoc, List.nil_append]
    rw [hl, h, bare_tail ln hl _ _ hs r]
    simp
theorem bare_list (n lev : Nat) (o c : UInt8) (ho : o ≠ 34 ∧ o ≠ 32 ∧ o ≠ 10) (hc : c ≠ 34 ∧ c ≠ 32 ∧ c ≠ 10) {xs ys : List Bs} (h : All2 Bare xs ys) : Bare (listB true n lev o c xs) (listB false n lev o c ys) := fun r => by
  rw [listB_no]
  unfold listB
  have e : bareM false ((if xs = [] then [] else lnB true n lev) ++ ([c] ++ r)) = c :: bareM false r := by
    have e1 : bareM false ([c] ++ r) = c :: bareM false r := bare_out hc.1 hc.2.1 hc.2.2 r
    split
    · exact e1
    · rw [bare_ln, e1]
  rw [List.cons_append, bare_out ho.1 ho.2.1 ho.2.2, List.append_assoc, List.append_assoc, bare_comma _ (bare_ln n (lev + 1)) h, e]
theorem bare_mem (_ _ : Nat) {k x y : Bs} (hk : (valid (st k)).2 = true) (h : Bare x y) : Bare (memB true k x) (memB false k y) := fun r => by
  rw [memB_no]
  unfold memB
  rw [List.append_assoc, List.append_assoc, bare_qt hk, if_pos rfl]
  show qtB k ++ bareM false (58 :: 32 :: (x ++ r)) = _
  rw [bare_out (by decide) (by decide) (by decide), bare_gone (.inl rfl), h]
theorem forall_map {α : Type} {p : Bs → Bs → Prop} (f g : α → Bs) : ∀ l : List α, (∀ x ∈ l, p (f x) (g x)) → All2 p (l.map f) (l.map g)
  | [], _ => .nil
  | x :: l, h => .cons (h x List.mem_cons_self) (forall_map f g l (fun y hy => h y (List.mem_cons_of_mem _ hy)))
theorem numC_bare {c : UInt8} (h : numC c = true) : c ≠ 34 ∧ c ≠ 32 ∧ c ≠ 10 := by
  refine ⟨?_, ?_, ?_⟩ <;> (rintro rfl; revert h; decide)
theorem prB_lev (n m : Nat) : ∀ v : Vl, ∀ lev lev' : Nat, prB false n lev v = prB false m lev' v := Vl.ind (P := fun v => ∀ lev lev' : Nat, prB false n lev v = prB false m lev' v) (fun k t ks is ih lev lev' => by
  have e : is.map (prB false n (lev + 1)) = is.map (prB false m (lev' + 1)) := List.map_congr_left (fun x hx => ih x hx (lev + 1) (lev' + 1))
  rw [prB_mk, prB_mk, e]
  rfl)
theorem prB_bare (n : Nat) : ∀ v : Vl, Rgt v → ∀ lev : Nat, Bare (prB true n lev v) (prB false n lev v) := Vl.ind (P := fun v => Rgt v → ∀ lev : Nat, Bare (prB true n lev v) (prB false n lev v)) (fun k t ks is ih hv lev => by
  have hi := hv.item
  rw [prB_mk, prB_mk]
  rcases hv.is with ⟨rfl, rfl, rfl, rfl⟩ | ⟨rfl, h1, rfl, rfl⟩ | ⟨rfl, h1, rfl, rfl⟩ | ⟨rfl, h1, rfl, rfl⟩ | ⟨rfl, rfl, rfl⟩ | ⟨rfl, rfl, h1, h2⟩
  · exact fun r => bare_run r [110, 117, 108, 108] (by decide)
  · rcases h1 with rfl | rfl
    · exact fun r => bare_run r [116, 114, 117, 101] (by decide)
    · exact fun r => bare_run r [102, 97, 108, 115, 101] (by decide)
  · exact fun r => bare_run r t (fun c hc => numC_bare (List.all_eq_true.1 (dec_run h1).2 c hc))
  · exact fun r => bare_qt h1 r
  · exact bare_list n lev 91 93 (by decide) (by decide) (forall_map _ _ is (fun x hx => ih x hx (hi x hx) (lev + 1)))
  · rw [if_neg (by decide), if_neg (by decide), if_neg (by decide), if_pos rfl, if_neg (by decide), if_neg (by decide), if_neg (by decide), if_pos rfl, zip_zip, zip_zip]
    exact bare_list n lev 123 125 (by decide) (by decide) (forall_map _ _ (ks.zip is) (fun x hx => by
      have hx1 := List.of_mem_zip hx
      exact bare_mem n lev (h2 _ hx1.1) (ih x.2 hx1.2 (hi _ hx1.2) (lev + 1)))))

/-! ### how many lines -/
theorem cnt_run : ∀ t : Bs, (∀ c ∈ t, c ≠ 34 ∧ c ≠ 32 ∧ c ≠ 10) → t.count 10 = 0 := fun _ h => List.count_eq_zero.2 fun e => (h 10 e).2.2 rfl
theorem hexd_ten : ∀ k, k < 16 → hexd k ≠ 10 := by decide
theorem cnt_qb (c : UInt8) : (qb c).count 10 = 0 := List.count_eq_zero.2 (by
  unfold qb
  by_cases h1 : c = 34 ∨ c = 92
  · rw [if_pos h1]; rcases h1 with rfl | rfl <;> decide
  rw [if_neg h1]
  by_cases h2 : c = 8
  · rw [if_pos h2]; decide
  rw [if_neg h2]
  by_cases h3 : c = 12
  · rw [if_pos h3]; decide
  rw [if_neg h3]
  by_cases h4 : c = 10
  · rw [if_pos h4]; decide
  rw [if_neg h4]
  by_cases h5 : c = 13
  · rw [if_pos h5]; decide
  rw [if_neg h5]
  by_cases h6 : c = 9
  · rw [if_pos h6]; decide
  rw [if_neg h6]
  by_cases h7 : c < 32
  · rw [if_pos h7]
    have h8 : c.toNat < 32 := h7
    have x := hexd_ten (c.toNat / 16) (by omega)
    have y := hexd_ten (c.toNat % 16) (by omega)
    simp only [List.mem_cons, List.not_mem_nil, or_false, not_or]
    exact ⟨by decide, by decide, by decide, by decide, fun e => x e.symm, fun e => y e.symm⟩
  · rw [if_neg h7]
    simp only [List.mem_cons, List.not_mem_nil, or_false]
    exact fun e => h4 e.symm)
theorem cnt_quoteB : ∀ l : Bs, (quoteB l).count 10 = 0
  | [] => rfl
  | c :: l => by
    have e : quoteB (c :: l) = qb c ++ quoteB l := rfl
    rw [e, List.count_append, cnt_qb, cnt_quoteB l]
theorem cnt_qt (t : Bs) : (qtB t).count 10 = 0 := by
  unfold qtB quoteM
  split
  · rw [st_list, List.count_append, List.count_cons, cnt_quoteB]; rfl
  · rfl
theorem cnt_ln (n lev : Nat) : (lnB true n lev).count 10 = 1 := by
  unfold lnB
  rw [if_pos rfl, List.count_cons, List.count_eq_zero.2 (fun h => by have := List.eq_of_mem_replicate h; exact absurd this (by decide))]; rfl
theorem cnt_flat (ln : Bs) (h : ln.count 10 = 1) : ∀ r : List Bs, (r.flatMap fun y => (44 : UInt8) :: (ln ++ y)).count 10 = r.length + (r.map (List.count 10)).sum
  | [] => rfl
  | x :: r => by
    rw [List.flatMap_cons, List.count_append, cnt_flat ln h r, List.count_cons, List.count_append, h]
    simp only [List.map_cons, List.sum_cons, List.length_cons]
    have : (if (44 : UInt8) == 10 then 1 else 0) = 0 := rfl
    omega
theorem cnt_list (n lev : Nat) (o c : UInt8) (ho : o ≠ 10) (hc : c ≠ 10) (its : List Bs) : (listB true n lev o c its).count 10 = (if its = [] then 0 else its.length + 1) + (its.map (List.count 10)).sum := by
  unfold listB
  have e1 : (if (o == 10) = true then 1 else 0) = 0 := if_neg (by simpa using ho)
  have e2 : (if (c == 10) = true then 1 else 0) = 0 := if_neg (by simpa using hc)
  rw [List.count_cons, List.count_append, List.count_append, List.count_cons, List.count_nil, e1, e2]
  cases its with
  | nil => simp [commaB]
  | cons x r =>
    rw [commaB, List.count_append, List.count_append, cnt_flat _ (cnt_ln n (lev + 1)), cnt_ln, if_neg (by simp), if_neg (by simp), cnt_ln]
    simp only [List.map_cons, List.sum_cons, List.length_cons]
    omega
theorem cnt_mem (k x : Bs) : (memB true k x).count 10 = x.count 10 := by
  unfold memB
  rw [List.count_append, List.count_append, cnt_qt, if_pos rfl]
  have : ([58, 32] : Bs).count 10 = 0 := by decide
  rw [this]; omega
/-- a text's line feeds: at most two a node, none where there are no items -/
theorem prB_lines (n : Nat) : ∀ v : Vl, Rgt v → ∀ lev : Nat, (prB true n lev v).count 10 + 2 ≤ 2 * v.size ∧ ((prB true n lev v).count 10 = 0 ↔ v.is = []) := Vl.ind (P := fun v => Rgt v → ∀ lev : Nat, (prB true n lev v).count 10 + 2 ≤ 2 * v.size ∧ ((prB true n lev v).count 10 = 0 ↔ v.is = [])) (fun k t ks is ih hv lev => by
  have hi := hv.item
  have hsz : (Vl.mk k t ks is).size = Vl.sizes is + 1 := by simp only [Vl.size]; omega
  have key : ∀ (f : Vl → Nat) (l : List Vl), (∀ x ∈ l, f x + 2 ≤ 2 * x.size) → (l.map f).sum + 2 * l.length ≤ 2 * Vl.sizes l := fun f l => by
    induction l with
    | nil => intro _; simp [Vl.sizes]
    | cons x l ihl =>
      intro h
      have h1 := h x List.mem_cons_self
      have h2 := ihl (fun y hy => h y (List.mem_cons_of_mem _ hy))
      simp only [List.map_cons, List.sum_cons, List.length_cons, Vl.sizes]
      omega
  rw [prB_mk, hsz]
  show _ ∧ (_ ↔ is = [])
  have lst : ∀ (o c : UInt8) (its : List Bs), o ≠ 10 → c ≠ 10 → its.length = is.length → (its.map (List.count 10)).sum + 2 * is.length ≤ 2 * Vl.sizes is → (listB true n lev o c its).count 10 + 2 ≤ 2 * (Vl.sizes is + 1) ∧ ((listB true n lev o c its).count 10 = 0 ↔ is = []) := fun o c its ho hc hl hs => by
    rw [cnt_list n lev o c ho hc]
    cases is with
    | nil =>
      have : its = [] := List.eq_nil_of_length_eq_zero hl
      subst this
      refine ⟨?_, ⟨fun _ => rfl, fun _ => rfl⟩⟩
      rw [if_pos rfl]
      show 0 + 0 + 2 ≤ _
      omega
    | cons x l =>
      have hne : its ≠ [] := fun e => by rw [e] at hl; cases hl
      rw [if_neg hne]
      rw [hl]
      simp only [List.length_cons] at hs ⊢
      exact ⟨by omega, ⟨fun h => by omega, fun h => by cases h⟩⟩
  rcases hv.is with ⟨rfl, rfl, rfl, rfl⟩ | ⟨rfl, h1, rfl, rfl⟩ | ⟨rfl, h1, rfl, rfl⟩ | ⟨rfl, h1, rfl, rfl⟩ | ⟨rfl, rfl, rfl⟩ | ⟨rfl, rfl, h1, h2⟩
  · show ([110, 117, 108, 108] : Bs).count 10 + 2 ≤ _ ∧ (([110, 117, 108, 108] : Bs).count 10 = 0 ↔ _)
    exact ⟨by simp [Vl.sizes], ⟨fun _ => rfl, fun _ => by decide⟩⟩
  · rcases h1 with rfl | rfl
    · show ([116, 114, 117, 101] : Bs).count 10 + 2 ≤ _ ∧ (([116, 114, 117, 101] : Bs).count 10 = 0 ↔ _)
      exact ⟨by simp [Vl.sizes], ⟨fun _ => rfl, fun _ => by decide⟩⟩
    · show ([102, 97, 108, 115, 101] : Bs).count 10 + 2 ≤ _ ∧ (([102, 97, 108, 115, 101] : Bs).count 10 = 0 ↔ _)
      exact ⟨by simp [Vl.sizes], ⟨fun _ => rfl, fun _ => by decide⟩⟩
  · have h0 := cnt_run t (fun c hc => numC_bare (List.all_eq_true.1 (dec_run h1).2 c hc))
    show t.count 10 + 2 ≤ _ ∧ (t.count 10 = 0 ↔ _)
    rw [h0]
    exact ⟨by simp [Vl.sizes], ⟨fun _ => rfl, fun _ => rfl⟩⟩
  · rw [if_neg (by decide), if_pos rfl, cnt_qt]
    exact ⟨by simp [Vl.sizes], ⟨fun _ => rfl, fun _ => rfl⟩⟩
  · refine lst 91 93 _ (by decide) (by decide) (by rw [List.length_map]) ?_
    rw [List.map_map]
    exact key _ is (fun x hx => (ih x hx (hi x hx) (lev + 1)).1)
  · rw [if_neg (by decide), if_neg (by decide), if_neg (by decide), if_pos rfl]
    refine lst 123 125 _ (by decide) (by decide) (by simp [h1]) ?_
    have e : (List.zipWith (memB true) ks (is.map (prB true n (lev + 1)))).map (List.count 10) = is.map (fun x => (prB true n (lev + 1) x).count 10) := by
      rw [zip_zip, List.map_map]
      have e2 : (List.count 10 ∘ fun q : Bs × Vl => memB true q.1 (prB true n (lev + 1) q.2)) = (fun x => (prB true n (lev + 1) x).count 10) ∘ Prod.snd := by
        funext q
        exact cnt_mem _ _
      rw [e2, ← List.map_map, (zip_fst_snd ks is h1).2]
    rw [e]
    exact key _ is (fun x hx => (ih x hx (hi x hx) (lev + 1)).1))
end Go.Proofs.YtnlkokgekjlmmaaGreatDoor
