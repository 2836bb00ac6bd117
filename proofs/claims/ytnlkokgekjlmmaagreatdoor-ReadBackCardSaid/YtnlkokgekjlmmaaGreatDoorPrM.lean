/-
  PLAIN MATHEMATICS: how long a value's text is; what Compact, Canon, Pretty answer.
-/
import Derived.Test.YtnlkokgekjlmmaaGreatDoorPrE
import Derived.Test.YtnlkokgekjlmmaaGreatDoorVuS
namespace Go.Proofs.YtnlkokgekjlmmaaGreatDoor
open Go.RowKit
theorem flat_len (ln : Bs) : ∀ r : List Bs, (r.flatMap fun y => (44 : UInt8) :: (ln ++ y)).length = (r.map List.length).sum + r.length * (ln.length + 1)
  | [] => by simp
  | x :: r => by
    rw [List.flatMap_cons, List.length_append, flat_len ln r]
    simp only [List.map_cons, List.sum_cons, List.length_cons, List.length_append, Nat.add_mul, Nat.one_mul]
    omega
theorem commaB_len (ln : Bs) : ∀ its : List Bs, (commaB ln its).length ≤ (its.map List.length).sum + its.length * (ln.length + 1)
  | [] => by simp [commaB]
  | x :: r => by
    rw [commaB, List.length_append, flat_len]
    simp only [List.map_cons, List.sum_cons, List.length_cons, List.length_append, Nat.add_mul, Nat.one_mul]
    omega
theorem lnB_len {ls : Bool} {n lev : Nat} (hn : n ≤ 8) (hv : lev ≤ 1000) : (lnB ls n lev).length ≤ 8001 := by
  unfold lnB
  split
  · have : n * lev ≤ 8 * 1000 := Nat.mul_le_mul hn hv
    simp; omega
  · simp
theorem listB_len {ls : Bool} {n lev : Nat} (o c : UInt8) (its : List Bs) (hn : n ≤ 8) (hv : lev + 1 ≤ 1000) : (listB ls n lev o c its).length ≤ (its.map List.length).sum + its.length * 8002 + 8003 := by
  have h1 := commaB_len (lnB ls n (lev + 1)) its
  have h2 := lnB_len (ls := ls) hn hv
  have h3 := lnB_len (ls := ls) (lev := lev) hn (by omega)
  have h4 : its.length * ((lnB ls n (lev + 1)).length + 1) ≤ its.length * 8002 := Nat.mul_le_mul_left _ (by omega)
  unfold listB
  simp only [List.length_cons, List.length_append]
  split <;> simp only [List.length_nil] <;> omega
theorem qtB_len (t : Bs) : (qtB t).length ≤ 6 * t.length + 2 := by
  unfold qtB quoteM
  split
  · have := quoteB_len (st t).data.toList
    rw [st_list] at this ⊢
    simp only [List.length_append, List.length_cons, List.length_nil, List.cons_append]
    omega
  · simp
theorem memB_len (ls : Bool) (k x : Bs) (hk : k.length ≤ 1024) : (memB ls k x).length ≤ x.length + 6148 := by
  have := qtB_len k
  unfold memB
  cases ls <;> simp <;> omega
theorem zip_len (ls : Bool) : ∀ (ks xs : List Bs), (∀ k ∈ ks, k.length ≤ 1024) → ((List.zipWith (memB ls) ks xs).map List.length).sum ≤ (xs.map List.length).sum + xs.length * 6148 ∧ (List.zipWith (memB ls) ks xs).length ≤ xs.length
  | [], xs, _ => by simp
  | _ :: _, [], _ => by simp
  | k :: ks, x :: xs, h => by
    obtain ⟨h1, h2⟩ := zip_len ls ks xs (fun y hy => h y (List.mem_cons_of_mem _ hy))
    have h3 := memB_len ls k x (h k List.mem_cons_self)
    simp only [List.zipWith_cons_cons, List.map_cons, List.sum_cons, List.length_cons]
    omega
theorem prB_len (ls : Bool) (n : Nat) (hn : n ≤ 8) : ∀ v : Vl, v.All Sht → ∀ lev : Nat, lev + v.depth ≤ 1000 → (prB ls n lev v).length + 14200 ≤ 30000 * v.size := Vl.ind (fun k t ks is ih h lev hd => by
  obtain ⟨ht, hk⟩ := h.here
  have hi := h.items
  simp only [Vl.t, Vl.ks] at ht hk
  simp only [Vl.depth] at hd
  have hsum : ∀ l : List Vl, (∀ x ∈ l, x ∈ is) → ((l.map (prB ls n (lev + 1))).map List.length).sum + l.length * 14200 ≤ 30000 * Vl.sizes l := fun l => by
    induction l with
    | nil => intro _; simp [Vl.sizes]
    | cons x l ihl =>
      intro hl
      have h1 := ihl (fun y hy => hl y (List.mem_cons_of_mem _ hy))
      have hx := hl x List.mem_cons_self
      have h2 := ih x hx (hi x hx) (lev + 1) (by have := Vl.depths_le x hx; omega)
      simp only [List.map_cons, List.sum_cons, List.length_cons, Vl.sizes]
      omega
  have hs := hsum is (fun x hx => hx)
  have hsz : (Vl.mk k t ks is).size = Vl.sizes is + 1 := by simp only [Vl.size]; omega
  rw [prB_mk, hsz, Nat.mul_add]
  split
  · simp only [List.length_cons, List.length_nil]; omega
  split
  · have := qtB_len t; omega
  split
  · have := listB_len (ls := ls) (n := n) (lev := lev) 91 93 (is.map (prB ls n (lev + 1))) hn (by omega)
    rw [List.length_map] at this
    omega
  split
  · have h1 := listB_len (ls := ls) (n := n) (lev := lev) 123 125 (List.zipWith (memB ls) ks (is.map (prB ls n (lev + 1)))) hn (by omega)
    obtain ⟨h2, h3⟩ := zip_len ls ks (is.map (prB ls n (lev + 1))) hk
    rw [List.length_map] at h2 h3
    omega
  · omega)
theorem right_good {v : Vl} (h : rightM v = true) : Good v ∧ v.size ≤ 4096 ∧ v.depth ≤ 32 ∧ v.k ≠ 7 := by
  unfold rightM at h
  simp only [Bool.and_eq_true, decide_eq_true_eq] at h
  obtain ⟨h1, h2, h3⟩ := h
  refine ⟨?_, h1, h2, ?_⟩
  · rw [Vl.allB_and, Bool.and_eq_true] at h3
    exact h3.1
  · obtain ⟨k, t, ks, is⟩ := v
    simp only [Vl.allB, Bool.and_eq_true, decide_eq_true_eq] at h3
    exact h3.1.2
theorem good_prok {v : Vl} : Good v → v.All Sht → v.All PrOk := Vl.ind (P := fun v => Good v → v.All Sht → v.All PrOk) (fun k t ks is ih hg hs => .mk k t ks is (by
    obtain ⟨h1, h2⟩ := hs.here
    simp only [Vl.t, Vl.ks] at h1 h2
    refine ⟨fun h6 => ?_, ?_, fun x hx => ?_⟩
    · simp only [Vl.k, Vl.ks, Vl.is] at h6 ⊢; exact (hg.obj h6).1
    · simp only [Vl.t]; omega
    · simp only [Vl.ks] at hx; have := h2 x hx; omega) (fun x hx => ih x hx (hg.items x hx) (hs.items x hx))) v
theorem decM_nil : decM [] = false := by decide
theorem prB_ne (ls : Bool) (n lev : Nat) {v : Vl} (h : rightM v = true) : prB ls n lev v ≠ [] := by
  obtain ⟨hg, _, _, h7⟩ := right_good h
  obtain ⟨k, t, ks, is⟩ := v
  have hn := hg.node
  simp only [Vl.k] at h7
  rw [prB_mk]
  rw [show nodeM (.mk k t ks is) = if k = 5 then decide (t = []) && decide (ks = []) else if k = 6 then decide (t = []) && membersM ks is.length else (decide (ks = []) && decide (is = [])) && scalarM k t from rfl] at hn
  split
  · simp
  split
  · rename_i h1 h4
    subst h4
    simp [scalarM] at hn
    unfold qtB quoteM
    rw [if_pos hn.2]
    simp
  split
  · simp [listB]
  split
  · simp [listB]
  · rename_i h1 h4 h5 h6
    rw [if_neg h5, if_neg h6] at hn
    simp only [Bool.and_eq_true] at hn
    have hs := hn.2
    unfold scalarM at hs
    rw [if_neg h1] at hs
    intro ht
    subst ht
    by_cases h2 : k = 2
    · rw [if_pos h2] at hs; simp at hs
    rw [if_neg h2] at hs
    by_cases h3 : k = 3
    · rw [if_pos h3, decM_nil] at hs; cases hs
    rw [if_neg h3, if_neg h4, if_neg h7] at hs
    cases hs
def compactM (v : Vl) : Bs × Int := if rightM v = true then (prB false 0 0 v, 0) else ([], 1)
def canonM (v : Vl) : Bs × Int := compactM (if openM v = true then sortV v else zeroL)
def prettyM (v : Vl) (i lv : Int) : Bs × Int := if rightM v = true ∧ 0 ≤ i ∧ i ≤ 8 ∧ 0 ≤ lv ∧ lv ≤ 32 then (prB true i.toNat lv.toNat v, 0) else ([], 1)
def TextP (r : Bs × Int) (w : World) (e : Ending) (w' : World) : Prop := e = .returned (.tuple #[.string (st r.1), .int .i64 r.2]) ∧ Below w.heap.size w w'
theorem sht_sort {v : Vl} (h : v.All Sht) : (sortV v).All Sht := all_sort (p := Sht) (fun _ _ _ _ _ _ h hs => ⟨h.1, fun x hx => h.2 x (hs x hx)⟩) v h
theorem prB_fits {v : Vl} (hr : rightM v = true) (hs : v.All Sht) (ls : Bool) {n lev : Nat} (hn : n ≤ 8) (hv : lev ≤ 32) : (prB ls n lev v).length ≤ 140737488355328 := by
  obtain ⟨_, h1, h2, _⟩ := right_good hr
  have := prB_len ls n hn v hs lev (by omega)
  omega
end Go.Proofs.YtnlkokgekjlmmaaGreatDoor
