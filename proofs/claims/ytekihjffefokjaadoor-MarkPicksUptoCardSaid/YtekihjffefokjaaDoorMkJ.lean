/-
  SMALL WORDS: a row that came in, appended to a new one; '& 1023'.
-/
import Derived.Test.YtekihjffefokjaaDoorMkT
import Derived.Test.YtekihjffefokjaaDoorPrtW
import Derived.Laws.AppendOwnNone
namespace Go.Proofs.YtekihjffefokjaaDoor
open Go.RowKit Go.Deep

theorem i64_and1023 (n : Int) : bits .and .i64 n 1023 = n % 1024 := by
  have h63 : (BitVec.ofInt 64 1023).toNat = 2 ^ 10 - 1 := by decide
  have key : (BitVec.ofInt 64 n &&& BitVec.ofInt 64 1023).toNat = (n % ((2 ^ 64 : Nat) : Int)).toNat % 2 ^ 10 := by
    rw [BitVec.toNat_and, BitVec.toNat_ofInt, h63, Nat.and_two_pow_sub_one_eq_mod]
  show IntKind.i64.wrap ((BitVec.ofInt 64 n &&& BitVec.ofInt 64 1023).toNat : Nat) = n % 1024
  rw [key, IntKind.wrap_i64]
  omega
theorem wpList_append_src {P : Program} {w : World} {ops : Array Oper} {rest : List Oper} {o : Oper} {a : Act} {Q : Exit → Act → World → Prop} (hgd : o.guard = none) (s x : Operand) (t : TypeId)
    (ho : o.op = .call { callee := .builtin .append, args := #[s, x], argTypes := #[t, t] })
    (base : Nat) (e : TypeId) (i : TypeInfo) (z : Value) (size bytes : Nat) (ht : P.underlying t = some (.slice e)) (hi : P.info? e = some i) (hz : i.zero = some z)
    (hsize : i.size = size) (hby : i.bytes = bytes) (hzs : z.cells.size = size) (hsz : 0 < size)
    (v : Value) (n : Nat) (xs : List Value) (hs : a.eval s = v) (hown : w.ownsRow base e size v n xs)
    (ao : Option Addr) (m c : Nat) (news : List Value) (hx : a.eval x = .slice ao m c) (hn : ao = none → c = 0) (hmc : m ≤ c) (hl : news.length = m * size) (hnews : ∀ ad, ao = some ad → ∀ j u, news[j]? = some u → w.cell? (ad.add j) = some u) (h1 : ∀ u ∈ news, u.oneCell' = true)
    (h63 : n + m ≤ maxLen) (hbytes : (n + m) * bytes ≤ 140737488355328) (hbase : base ≤ w.heap.size)
    (h : ∀ v' w', w'.ownsRow base e size v' (n + m) (xs ++ news) → w.grownBy w' v.ownBlock → wpList P ops Q rest (a.put o.dst v') w') : wpList P ops Q (o :: rest) a w := by
  cases ao with
  | none =>
    obtain rfl : c = 0 := hn rfl
    obtain rfl : m = 0 := Nat.le_zero.1 hmc
    obtain rfl : news = [] := List.eq_nil_of_length_eq_zero (by rw [hl, Nat.zero_mul])
    exact wpList_append_own_none hgd s x t ho base e i size ht hi v n xs hs hown hx (h v w (by rw [List.append_nil]; exact hown) ⟨rfl, rfl, rfl, Nat.le_refl _, fun _ _ _ => rfl⟩)
  | some ad => exact wpList_append_own w hgd s x t ho base e i z size bytes ht hi hz hsize hby hzs hsz v n xs hs hown ad m c news hx hl (hnews ad rfl) h1 h63 hbytes hbase (fun v' w' h2 h3 _ => h v' w' h2 h3)
theorem row_none (w : World) (e : TypeId) (size : Nat) : (w.alloc (.cells #[] e)).ownsRow w.heap.size e size (.slice (some ⟨w.heap.size, 0, none⟩) 0 0) 0 [] :=
  ⟨by simp, .inr ⟨w.heap.size, 0, #[], rfl, Nat.le_refl _, heap_alloc_new w _, Nat.le_refl _, Nat.zero_le _, by simp, by simp⟩⟩
theorem partCells_len (l : List MPart) : (partCells l).length = l.length * 5 := by
  induction l with
  | nil => rfl
  | cons x l ih =>
    show (_ ++ partCells l).length = _
    rw [List.length_append, ih, List.length_cons]
    simp only [List.length_cons, List.length_nil]
    omega
theorem partCells_one (l : List MPart) : ∀ u ∈ partCells l, u.oneCell' = true := by
  intro u hu
  unfold partCells at hu
  obtain ⟨x, _, hx⟩ := List.mem_flatMap.1 hu
  exact part_one _ _ _ _ _ u hx
theorem parts_cells {w : World} {o : Option Addr} {l : List MPart} (h : PartsIn w o l) : ∀ ad, o = some ad → ∀ j u, (partCells l)[j]? = some u → w.cell? (ad.add j) = some u := by
  intro ad ho j u hu
  have hj : j < l.length * 5 := by
    have := (List.getElem?_eq_some_iff.1 hu).1
    rwa [partCells_len] at this
  obtain ⟨b, f, hb, hp⟩ := h (j / 5) (by omega)
  rw [ho] at hb
  obtain rfl := Option.some.inj hb
  have hc := partCells_at l (j / 5) _ (List.getElem?_eq_getElem (by omega)) (j % 5) (by omega)
  rw [show j / 5 * 5 + j % 5 = j by omega, hu] at hc
  rw [Go.WideShapes.add_plain, hc]
  have h5 : j % 5 = 0 ∨ j % 5 = 1 ∨ j % 5 = 2 ∨ j % 5 = 3 ∨ j % 5 = 4 := by omega
  have hjj : f + j = f + j / 5 * 5 + j % 5 := by omega
  rcases h5 with h | h | h | h | h
  all_goals rw [hjj, h]
  · exact hp.c0
  · exact hp.c1
  · exact hp.c2
  · exact hp.c3
  · exact hp.c4
theorem ints_cells {w : World} {o : Option Addr} {l : List Int} (h : IntsIn w o l) : ∀ ad, o = some ad → ∀ j u, (l.map (Value.int .i64))[j]? = some u → w.cell? (ad.add j) = some u := by
  intro ad ho j u hu
  have hj : j < l.length := by
    have := (List.getElem?_eq_some_iff.1 hu).1
    rwa [List.length_map] at this
  obtain ⟨b, f, hb, hp⟩ := h j hj
  rw [ho] at hb
  obtain rfl := Option.some.inj hb
  rw [Go.WideShapes.add_plain, hp]
  rw [List.getElem?_map, List.getElem?_eq_getElem hj] at hu
  exact hu
/-- a row of the call's own, of ints, read -/
theorem irow_in {w : World} {B : Nat} {v : Value} {l : List Int} (h : w.ownsRow B 3 1 v l.length (l.map (Value.int .i64))) : ∃ o cap, v = .slice o l.length cap ∧ l.length ≤ cap ∧ cap ≤ maxLen ∧ IntsIn w o l := by
  rcases h.2 with ⟨rfl, hl⟩ | ⟨g, cap, cur, rfl, _, hb, hlc, hcm, _, ht⟩
  · have : l = [] := List.eq_nil_of_length_eq_zero hl
    subst this
    exact ⟨none, 0, rfl, Nat.le_refl _, Nat.zero_le _, fun i hi => absurd hi (Nat.not_lt_zero i)⟩
  · refine ⟨_, cap, rfl, hlc, hcm, fun i hi => ⟨g, 0, rfl, ?_⟩⟩
    have hc : w.cell? ⟨g, 0 + i, none⟩ = cur[i]? := by rw [Nat.zero_add]; exact cell_of_row w g i cur _ (0, 0) hb
    rw [hc, ← Array.getElem?_toList]
    have h1 : (cur.toList.take (l.length * 1))[i]? = cur.toList[i]? := by rw [List.getElem?_take, if_pos (by omega)]
    rw [← h1, ht, List.getElem?_map, List.getElem?_eq_getElem hi]
    rfl
end Go.Proofs.YtekihjffefokjaaDoor
namespace Go.Proofs.YtekihjffefokjaaDoor
open Go.ChangeShapes Go.WideShapes Go.ChangeAt Go.RowKit Go.Deep
section
variable {H : Type} {enc : TypeId × Value → H} {P : Program} {w : World} {base : Nat} {spare : Nat → Bool} {held : Bool}
theorem none_cap {tL tE : TypeId} {o : Option Addr} {n cap : Nat} {d : DataW H} {p : List MemPlace} (hL : P.underlying tL = some (.slice tE)) (h : DataW.Trod enc P w base spare held tL (.slice o n cap) d p) : o = none → cap = 0 := by
  rintro rfl
  obtain ⟨fuel, hf⟩ := h
  rcases open_slice hL hf with ⟨hcs, _⟩ | ⟨a, len', cap', m, n, D, Pl, hcs, _⟩
  · simp [Value.cells] at hcs
    exact hcs.2
  · simp [Value.cells] at hcs
end
end Go.Proofs.YtekihjffefokjaaDoor
