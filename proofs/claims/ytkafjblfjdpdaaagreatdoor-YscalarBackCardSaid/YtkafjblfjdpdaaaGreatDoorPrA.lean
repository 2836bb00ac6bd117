/-
  PLAIN MATHEMATICS: what is read is a value; where a path leads in a text, it leads in its value; a node's bytes, alone, are its value.
  PLAIN MATHEMATICS: the tokens of what is written: numbers, words, strings.
  WALKS: strings.Builder's methods at the head of a printer: copyCheck, WriteByte, WriteString.
-/
import Derived.Test.YtkafjblfjdpdaaaGreatDoorRdi
import Derived.Test.YtkafjblfjdpdaaaGreatDoorUnqD
import Derived.Test.YtkafjblfjdpdaaaGreatDoorJtQ
import Derived.Test.YtkafjblfjdpdaaaGreatDoorRun
namespace Go.Proofs.YtkafjblfjdpdaaaGreatDoor
open Go.RowKit
/-! ### paths -/
/-! ### alone -/
end Go.Proofs.YtkafjblfjdpdaaaGreatDoor

namespace Go.Proofs.YtkafjblfjdpdaaaGreatDoor
open Go.RowKit
def numD (c : UInt8) : Bool := isNum c.toNat
theorem dig_num {c : UInt8} (h : isDig c = true) : numD c = true := by
  unfold isDig at h
  unfold numD isNum
  simp only [Bool.and_eq_true, decide_eq_true_eq] at h
  simp [h.1, h.2]
theorem digs_num {l : Bs} (h : l.all isDig = true) : l.all numD = true := by
  rw [List.all_eq_true] at *
  exact fun x hx => dig_num (h x hx)
theorem fin_num {p : Parts} {d : Bool} {r : Bs} {q : Parts} (h : splitFin p d r = some q) : r.all numD = true := by
  unfold splitFin at h
  split at h
  · rename_i h1
    exact digs_num h1.2
  · cases h
theorem exp_num {p : Parts} {l : Bs} {q : Parts} (h : splitExp p l = some q) : l.all numD = true := by
  cases l with
  | nil => rfl
  | cons c r =>
    unfold splitExp at h
    rw [List.all_cons, Bool.and_eq_true]
    by_cases h1 : c = 45
    · subst h1
      exact ⟨by decide, fin_num h⟩
    · rw [if_neg (by simpa using h1)] at h
      by_cases h2 : c = 43
      · subst h2
        exact ⟨by decide, fin_num h⟩
      · rw [if_neg (by simpa using h2)] at h
        have := fin_num h
        rwa [List.all_cons, Bool.and_eq_true] at this
theorem tail_num {p : Parts} {l : Bs} {q : Parts} (h : splitTail p l = some q) : l.all numD = true := by
  cases l with
  | nil => rfl
  | cons c r =>
    unfold splitTail at h
    simp only at h
    split at h
    · rename_i hc
      rw [List.all_cons, Bool.and_eq_true]
      exact ⟨by rcases hc with rfl | rfl <;> decide, exp_num h⟩
    · cases h
theorem takeDrop_num {r : Bs} (h : (r.dropWhile isDig).all numD = true) : r.all numD = true := by
  have e := List.takeWhile_append_dropWhile (p := isDig) (l := r)
  have h2 : (r.takeWhile isDig ++ r.dropWhile isDig).all numD = true := by rw [List.all_append, h, digs_num (takeWhile_all r)]; rfl
  rwa [e] at h2
theorem frac_num {p : Parts} {l : Bs} {q : Parts} (h : splitFrac p l = some q) : l.all numD = true := by
  cases l with
  | nil => rfl
  | cons c r =>
    by_cases hc : c = 46
    · subst hc
      have h2 : (if r.takeWhile isDig = [] then none else splitTail { p with frac := r.takeWhile isDig } (r.dropWhile isDig)) = some q := h
      split at h2
      · cases h2
      · rw [List.all_cons, Bool.and_eq_true]
        exact ⟨by decide, takeDrop_num (tail_num h2)⟩
    · have h2 : splitTail p (c :: r) = some q := by
        unfold splitFrac at h
        split at h
        · rename_i heq
          injection heq with h3
          exact absurd h3 hc
        · exact h
      exact tail_num h2
theorem whole_num {n : Bool} {l : Bs} {q : Parts} (h : splitWhole n l = some q) : l.all numD = true ∧ ∃ c r, l = c :: r ∧ isDig c = true := by
  unfold splitWhole at h
  simp only at h
  split at h
  · cases h
  · rename_i hw
    refine ⟨takeDrop_num (frac_num h), ?_⟩
    cases l with
    | nil => exact absurd (.inl rfl) hw
    | cons c r =>
      refine ⟨c, r, rfl, ?_⟩
      cases hc : isDig c with
      | true => rfl
      | false => exact absurd (.inl (by simp [hc])) hw
theorem split_num {l : Bs} {q : Parts} (h : splitM l = some q) : l.all numD = true ∧ ∃ c r, l = c :: r ∧ (c = 45 ∨ isDig c = true) := by
  unfold splitM at h
  split at h
  · rename_i h1
    cases l with
    | nil => cases h1
    | cons c r =>
      have hc : c = 45 := by simpa using h1
      subst hc
      obtain ⟨h2, _⟩ := whole_num h
      exact ⟨by rw [List.all_cons, Bool.and_eq_true]; exact ⟨by decide, h2⟩, _, _, rfl, .inl rfl⟩
  · obtain ⟨h2, c, r, h3, h4⟩ := whole_num h
    exact ⟨h2, c, r, h3, .inr h4⟩
theorem len_ba (s : ByteArray) : s.data.toList.length = s.size := Array.length_toList
theorem ext_all (s : ByteArray) : s.extract 0 s.size = s := by
  have hz : (s.extract 0 s.size).size = s.size := by rw [ByteArray.size_extract]; omega
  refine ba_same (List.ext_getElem ((len_ba _).trans (hz.trans (len_ba s).symm)) (fun i h1 h2 => ?_))
  have e1 := bytT (s.extract 0 s.size) i h1
  have hi : i < s.size := (len_ba s) ▸ h2
  rw [byt_sub s 0 s.size i (Nat.le_refl _) (by omega), Nat.zero_add, ← bytT s i h2] at e1
  exact UInt8.toNat_inj.1 e1
theorem sub_all (s : ByteArray) : sub s 0 s.size = s.data.toList := by unfold sub; rw [ext_all]
theorem number_one {s : ByteArray} (h : (parseM s.data.toList).2 = 0) : 0 < s.size ∧ oneM s 0 = (9, s.size, 0) := by
  cases hs : splitM s.data.toList with
  | none => unfold parseM at h; rw [hs] at h; exact absurd h (show ¬ ((2 : Int) = 0) by decide)
  | some q =>
    obtain ⟨ha, c, r, hl, hc⟩ := split_num hs
    have hz : s.size = r.length + 1 := by
      have : s.data.toList.length = s.size := Array.length_toList
      rw [hl, List.length_cons] at this
      omega
    have hb : ∀ j, j < s.size → isNum (byt s j) = true := fun j hj => by
      have hj2 : j < s.data.toList.length := by rw [Array.length_toList]; exact hj
      rw [← bytT s j hj2]
      exact List.all_eq_true.1 ha _ (List.getElem_mem hj2)
    have hr : runTo s isNum 0 = s.size := by
      have := runTo_all s isNum s.size 0 (by omega) (fun j hj => by rw [Nat.zero_add]; exact hb j hj)
      rw [Nat.zero_add] at this
      rw [this]
      exact runTo_end (Nat.le_refl _)
    have h0 : byt s 0 = c.toNat := by
      have hj2 : 0 < s.data.toList.length := by rw [hl]; exact Nat.succ_pos _
      rw [← bytT s 0 hj2]
      simp [hl]
    have hc' : byt s 0 = 45 ∨ 48 ≤ byt s 0 ∧ byt s 0 ≤ 57 := by
      rw [h0]
      rcases hc with rfl | hc
      · left; rfl
      · right
        unfold isDig at hc
        simpa only [Bool.and_eq_true, decide_eq_true_eq] using hc
    have hs0 : signM (byt s 0) = 0 := by
      unfold signM
      repeat' split
      all_goals omega
    have hbl : ¬ isBlank (byt s 0) = true := by
      unfold isBlank
      simp only [Bool.or_eq_true, beq_iff_eq]
      omega
    refine ⟨by omega, ?_⟩
    unfold oneM
    simp only
    rw [if_neg (by rw [hs0]; simp), if_neg hbl, if_neg (by omega), if_pos hc', hr, sub_all, if_neg (by rw [h]; simp)]
def Term (T : ByteArray) (b : Nat) : Prop := b = T.size ∨ (isNum (byt T b) = false ∧ isLet (byt T b) = false)
theorem one_at {T : ByteArray} {a k : Nat} {l : Bs} (h : oneM (st l) 0 = (k, l.length, 0)) (hk : k ≠ 1) (h0 : 0 < l.length) (hat : At T a l) (ha : a ≤ T.size) (ht : Term T (a + l.length)) : oneM T a = (k, a + l.length, 0) := by
  have hle := hat.le ha
  have := oneM_same2 (s := st l) (t := T) (p := 0) (q := a) (by rw [st_size]; exact h0) h hk (by omega) (fun j hj => by
    rw [hat.get j (by omega), Nat.zero_add, ← bytT (st l) j (by rw [st_list]; omega)]) (by
    rw [Nat.sub_zero]
    exact ht.imp id .inl)
  simpa using this
theorem at_sub {T : ByteArray} {a : Nat} {l : Bs} (h : At T a l) (ha : a ≤ T.size) : T.extract a (a + l.length) = st l := by
  have hle := h.le ha
  have hz : (T.extract a (a + l.length)).size = l.length := by rw [ByteArray.size_extract]; omega
  have hl : (st l).data.toList = l := st_list l
  refine ba_same (Eq.trans ?_ hl.symm)
  refine List.ext_getElem ((len_ba _).trans hz) (fun i h1 h2 => ?_)
  have e1 := bytT (T.extract a (a + l.length)) i h1
  rw [byt_sub T a (a + l.length) i hle (by omega), h.get i h2] at e1
  exact UInt8.toNat_inj.1 e1
theorem one_null {T : ByteArray} {a : Nat} (hat : At T a [110, 117, 108, 108]) (ha : a ≤ T.size) (ht : Term T (a + 4)) : oneM T a = (12, a + 4, 0) :=
  one_at (l := [110, 117, 108, 108]) (by decide +kernel) (by decide) (by decide) hat ha ht
theorem one_true {T : ByteArray} {a : Nat} (hat : At T a [116, 114, 117, 101]) (ha : a ≤ T.size) (ht : Term T (a + 4)) : oneM T a = (10, a + 4, 0) :=
  one_at (l := [116, 114, 117, 101]) (by decide +kernel) (by decide) (by decide) hat ha ht
theorem one_false {T : ByteArray} {a : Nat} (hat : At T a [102, 97, 108, 115, 101]) (ha : a ≤ T.size) (ht : Term T (a + 5)) : oneM T a = (11, a + 5, 0) :=
  one_at (l := [102, 97, 108, 115, 101]) (by decide +kernel) (by decide) (by decide) hat ha ht
theorem one_num {T : ByteArray} {a : Nat} {l : Bs} (h : (parseM l).2 = 0) (hat : At T a l) (ha : a ≤ T.size) (ht : Term T (a + l.length)) : 0 < l.length ∧ oneM T a = (9, a + l.length, 0) := by
  have e : (st l).data.toList = l := st_list l
  obtain ⟨h1, h2⟩ := number_one (s := st l) (by rw [e]; exact h)
  rw [st_size] at h1 h2
  exact ⟨h1, one_at h2 (by decide) h1 hat ha ht⟩
theorem quote_len (t : ByteArray) : (quoteM t).1.length ≤ 6 * t.size + 2 := by
  by_cases h : (valid t).2 = true
  · rw [quoteM_yes h]
    have h1 := quoteB_len t.data.toList
    have h2 := len_ba t
    simp only [List.cons_append, List.length_cons, List.length_append, List.length_nil]
    omega
  · rw [quoteM_no h]
    exact Nat.zero_le _
/-! ### a text of a number, of a string, of two -/
end Go.Proofs.YtkafjblfjdpdaaaGreatDoor

namespace Go.Proofs.YtkafjblfjdpdaaaGreatDoor
open Go.RowKit
def PrAt (B b : Nat) (p : Value) (l : Bs) (ls : Bool) (n : Int) (w : World) : Prop :=
  B ≤ b ∧ ∃ v, w.heap[b]? = some (.cells #[p, v, .bool ls, .int .i64 n] 100 (0, 0)) ∧ w.ownsRow B 5 1 v l.length (Lib.byteCells l)
def Prn (B b : Nat) (l : Bs) (ls : Bool) (n : Int) (w : World) : Prop := PrAt B b (.pointer none) l ls n w ∨ PrAt B b (.pointer (some ⟨b, 0, none⟩)) l ls n w
def PrW (B b : Nat) (l : Bs) (ls : Bool) (n : Int) (w w' : World) : Prop := Prn B b l ls n w' ∧ Below B w w' ∧ Lib.OthersKept 5 (some b) w w'
theorem PrW.trans {B b : Nat} {l l' : Bs} {ls ls' : Bool} {n n' : Int} {w w1 w2 : World} (h : PrW B b l ls n w w1) (h' : PrW B b l' ls' n' w1 w2) : PrW B b l' ls' n' w w2 := ⟨h'.1, h.2.1.trans h'.2.1, h.2.2.trans h'.2.2⟩
theorem pr_ne : 100 ≠ 5 := by decide
theorem own_kept {w : World} {B e n : Nat} {v : Value} {xs : List Value} {b : Nat} (h : w.ownsRow B e 1 v n xs) {cs : Array Value} {T : TypeId} {fr : Nat × Nat} (hb : w.heap[b]? = some (.cells cs T fr)) (hne : T ≠ e) (p : Addr) (hp : p.block = b) (u : Value) : (w.setCell p u).ownsRow B e 1 v n xs :=
  h.kept (row := some b) ⟨rfl, rfl, rfl, by simp [World.setCell], fun k _ hk => Below.heap_setCell _ _ _ _ (fun e => hk (by rw [← hp, e]))⟩ (Or.inr (Lib.ownBlock_ne h hb hne))
theorem set_at {w : World} {b : Nat} {cs : Array Value} {T : TypeId} {fr : Nat × Nat} (hb : w.heap[b]? = some (.cells cs T fr)) (i : Nat) (u : Value) : (w.setCell ⟨b, i, none⟩ u).heap[b]? = some (.cells (cs.setIfInBounds i u) T fr) := by
  simp [World.setCell, Array.getElem?_modify, hb]
theorem PrAt.used {B b : Nat} {p : Value} {l : Bs} {ls : Bool} {n : Int} {w : World} (h : PrAt B b p l ls n w) (q : Value) : PrAt B b q l ls n (w.setCell ⟨b, 0, none⟩ q) := by
  obtain ⟨hB, v, hb, hown⟩ := h
  exact ⟨hB, v, by simpa using set_at hb 0 q, own_kept hown hb pr_ne _ rfl _⟩
theorem PrAt.put {B b : Nat} {p v v' : Value} {l' : Bs} {ls : Bool} {n : Int} {w : World} (hB : B ≤ b) (hb : w.heap[b]? = some (.cells #[p, v, .bool ls, .int .i64 n] 100 (0, 0))) (hown : w.ownsRow B 5 1 v' l'.length (Lib.byteCells l')) : PrAt B b p l' ls n (w.setCell ⟨b, 1, none⟩ v') :=
  ⟨hB, v', by simpa using set_at hb 1 v', own_kept hown hb pr_ne _ rfl _⟩
theorem PrAt.grow {B b : Nat} {p : Value} {l : Bs} {ls : Bool} {n : Int} {w w' : World} (h : PrAt B b p l ls n w) (hb : Below w.heap.size w w') : PrAt B b p l ls n w' := by
  obtain ⟨hB, v, hv, hown⟩ := h
  refine ⟨hB, v, (hb.block b (Array.getElem?_eq_some_iff.1 hv).1).trans hv, hown.1, ?_⟩
  rcases hown.2 with hn | ⟨g, cap, cur, hv, hbg, hg, rest⟩
  · exact .inl hn
  · exact .inr ⟨g, cap, cur, hv, hbg, (hb.block g (Array.getElem?_eq_some_iff.1 hg).1).trans hg, rest⟩
theorem Prn.grow {B b : Nat} {l : Bs} {ls : Bool} {n : Int} {w w' : World} (h : Prn B b l ls n w) (hb : Below w.heap.size w w') : Prn B b l ls n w' := h.elim (fun x => .inl (x.grow hb)) (fun x => .inr (x.grow hb))
theorem Prn.lt {B b : Nat} {l : Bs} {ls : Bool} {n : Int} {w : World} (h : Prn B b l ls n w) : B ≤ b ∧ b < w.heap.size := by
  rcases h with ⟨hB, v, hv, _⟩ | ⟨hB, v, hv, _⟩
  all_goals exact ⟨hB, (Array.getElem?_eq_some_iff.1 hv).1⟩
theorem Prn.cells {B b : Nat} {l : Bs} {ls : Bool} {n : Int} {w : World} (h : Prn B b l ls n w) : w.cell? ⟨b, 2, none⟩ = some (.bool ls) ∧ w.cell? ⟨b, 3, none⟩ = some (.int .i64 n) := by
  rcases h with ⟨hB, v, hv, _⟩ | ⟨hB, v, hv, _⟩
  all_goals exact ⟨by rw [Lib.cell_of_heap hv]; rfl, by rw [Lib.cell_of_heap hv]; rfl⟩
theorem PrW.grow {B b : Nat} {l : Bs} {ls : Bool} {n : Int} {w w1 w2 : World} (h : PrW B b l ls n w w1) (hb : Below w1.heap.size w1 w2) (hB : B ≤ w1.heap.size) : PrW B b l ls n w w2 :=
  ⟨h.1.grow hb, h.2.1.trans (hb.mono hB), fun k o hk hne ho => by
    have h1 := h.2.2 k o hk hne ho
    exact (hb.block k (Array.getElem?_eq_some_iff.1 h1).1).trans h1⟩
theorem prn_size : (Tryz.prog.info? 98).map (·.size) = some 2 := by kernel_rfl
theorem prn_lies : liesAt Tryz.prog Tryz.prog.depth 100 (4 / Tryz.prog.cellsOf 100) 0 98 1 = true := by kernel_rfl
theorem prn_ptr : Tryz.prog.underlying 95 = some (.pointer 98) := by kernel_rfl
theorem prn_uns : Tryz.prog.underlying 192 = some .unsafePointer := by kernel_rfl
theorem prn_byte : (Tryz.prog.info? 5).map (fun i => (i.zero, i.size, i.bytes)) = some (some (.int .u8 0), 1, 1) := by kernel_rfl
set_option maxHeartbeats 1000000 in
set_option maxRecDepth 100000 in
theorem pcheck_used (b : Nat) (w : World) (h0 : w.cell? ⟨b, 0, none⟩ = some (.pointer (some ⟨b, 0, none⟩))) :
    Calls Tryz.prog 137 #[.pointer (some ⟨b, 0, none⟩)] w fun e w' => e = .returned (.tuple #[]) ∧ w' = w := by
  obtain ⟨j, hj, _⟩ := Option.map_eq_some_iff.1 prn_size
  have hNE := Lib.run_neq_ptr_same (P := Tryz.prog) w ⟨b, 0, none⟩ prn_ptr hj
  go_enter Tryz.func137, Tryz.ntmps137
  go_wp2
  first
    | done
    | (rw [hNE]
       go_wp2
       go_end0
       exact ⟨rfl, rfl⟩)
    | (go_end0
       exact ⟨rfl, rfl⟩)
set_option maxHeartbeats 1000000 in
set_option maxRecDepth 100000 in
theorem pcheck_fresh (b : Nat) (w : World) (h0 : w.cell? ⟨b, 0, none⟩ = some (.pointer none)) (hsh : w.shape? b = some (100, 4)) (hfz : w.frozen? ⟨b, 0, none⟩ = false) :
    Calls Tryz.prog 137 #[.pointer (some ⟨b, 0, none⟩)] w fun e w' => e = .returned (.tuple #[]) ∧ w' = w.setCell ⟨b, 0, none⟩ (.pointer (some ⟨b, 0, none⟩)) := by
  obtain ⟨j, hj, hjs⟩ := Option.map_eq_some_iff.1 prn_size
  go_enter Tryz.func137, Tryz.ntmps137
  go_wp2
  rw [Lib.run_to_unsafe w ⟨b, 0, none⟩ prn_ptr prn_uns hj (by rw [hjs]; decide) hsh (Nat.zero_lt_succ 3)]
  simp only [Result.andThen]
  rw [Oper.upon_value]
  go_wp2
  rw [run_callFunc_extern Tryz.func173 (by kernel_rfl) (by kernel_rfl) (by kernel_rfl) (e := Extern.AbiNoEscape.same) (by kernel_rfl)]
  rw [Lib.run_noEscape]
  simp only [Result.andThen]
  rw [Oper.upon_value]
  go_wp2
  rw [Lib.run_from_unsafe w ⟨b, 0, none⟩ prn_uns prn_ptr hj hsh prn_lies]
  simp only [Result.andThen]
  rw [Oper.upon_value]
  go_wp2
  go_end0
  exact ⟨rfl, rfl⟩
theorem pcheck (B b : Nat) (l : Bs) (ls : Bool) (n : Int) (w : World) (h : Prn B b l ls n w) :
    Calls Tryz.prog 137 #[.pointer (some ⟨b, 0, none⟩)] w fun e w' => e = .returned (.tuple #[]) ∧ PrAt B b (.pointer (some ⟨b, 0, none⟩)) l ls n w' ∧ Below B w w' ∧ Lib.OthersKept 5 (some b) w w' := by
  rcases h with h | h
  · obtain ⟨hB, v, hv, hown⟩ := id h
    refine (pcheck_fresh b w (by rw [Lib.cell_of_heap hv]; rfl) (by simp [World.shape?, hv]) (Lib.frozen_of_heap hv 0)).mono ?_
    rintro e w' ⟨rfl, rfl⟩
    exact ⟨rfl, h.used _, (Below.refl B w).setCell (p := ⟨b, 0, none⟩) hB _, (Lib.OthersKept.refl _ _ w).setCell ⟨b, 0, none⟩ rfl _⟩
  · obtain ⟨hB, v, hv, hown⟩ := id h
    refine (pcheck_used b w (by rw [Lib.cell_of_heap hv]; rfl)).mono ?_
    rintro e w' ⟨rfl, rfl⟩
    exact ⟨rfl, h, Below.refl B _, Lib.OthersKept.refl _ _ _⟩
theorem own_kind {w : World} {B : Nat} {e : TypeId} {v : Value} {n : Nat} {xs : List Value} (h : w.ownsRow B e 1 v n xs) : ∀ g, v.ownBlock = some g → ∃ c fz, w.heap[g]? = some (.cells c e fz) := Lib.ownsRowF_kind (World.ownsRowF_of h)
set_option maxHeartbeats 2000000 in
set_option maxRecDepth 100000 in
theorem pbyte (B b : Nat) (l : Bs) (ls : Bool) (n : Int) (c : UInt8) (w : World) (h : Prn B b l ls n w) (hl : l.length + 1 ≤ 140737488355328) (hBw : B ≤ w.heap.size) :
    Calls Tryz.prog 99 #[.pointer (some ⟨b, 0, none⟩), .int .u8 (c.toNat : Int)] w fun e w' => e = .returned .nilIface ∧ PrW B b (l ++ [c]) ls n w w' := by
  obtain ⟨i0, hi, hz0, hz1, hz2⟩ := info_parts prn_byte
  have HC := hq (pcheck B b l ls n w h)
  clear h
  go_enter Tryz.func99, Tryz.ntmps99
  go_wp2_with fail
  refine HC.o.mono ?_
  rintro e w1 ⟨rfl, h1, hb1, hk1⟩
  obtain ⟨hB, v, hbk, hown⟩ := h1
  have hne := Lib.ownBlock_ne hown hbk pr_ne
  have c0 : w1.cell? ⟨b, 0, none⟩ = some (.pointer (some ⟨b, 0, none⟩)) := by rw [Lib.cell_of_heap hbk]; rfl
  have c1 : w1.cell? ⟨b, 1, none⟩ = some v := by rw [Lib.cell_of_heap hbk]; rfl
  go_wp2_with (at_builtin; refine wpList_append_own _ rfl _ _ 96 rfl B 5 i0 (.int .u8 0) 1 1 (by kernel_rfl) hi hz0 hz1 hz2 rfl (by decide) _ _ _ rfl (hown.alloc _) ⟨w1.heap.size, 0, none⟩ 1 1 [.int .u8 (c.toNat : Int)] rfl rfl ?c1 ?c2 ?c3 ?c4 ?c5 ?_)
  case c1 =>
    intro j u hj
    match j, hj with
    | 0, hj => simp at hj; subst hj; simp [Addr.add]
  case c2 => intro u hu; simp at hu; subst hu; rfl
  case c3 => unfold maxLen; omega
  case c4 => omega
  case c5 => have := hb1.size; simp; omega
  intro v' w2 hown' hgrow _
  have hlt : b < w1.heap.size := (Array.getElem?_eq_some_iff.1 hbk).1
  have hb2 : w2.heap[b]? = some (.cells #[.pointer (some ⟨b, 0, none⟩), v, .bool ls, .int .i64 n] 100 (0, 0)) := by
    rw [hgrow.block b (by simp; omega) (fun e => hne e.symm), Lib.alloc_old w1 _ b hlt]
    exact hbk
  have d0 : w2.cell? ⟨b, 0, none⟩ = some (.pointer (some ⟨b, 0, none⟩)) := by rw [Lib.cell_of_heap hb2]; rfl
  have d1 : w2.cell? ⟨b, 1, none⟩ = some v := by rw [Lib.cell_of_heap hb2]; rfl
  have f1 : w2.frozen? ⟨b, 1, none⟩ = false := Lib.frozen_of_heap hb2 1
  obtain ⟨g, cap, rfl⟩ : ∃ g cap, v' = .slice (some ⟨g, 0, none⟩) (l.length + 1) cap := by
    rcases hown'.2 with ⟨_, h0⟩ | ⟨g, cap, cur, hv, _⟩
    · omega
    · exact ⟨g, cap, hv⟩
  go_wp2
  go_ret
  refine ⟨rfl, .inr ?_, ?_, ((hk1.alloc _).grown hgrow (own_kind (hown.alloc _))).setCell ⟨b, 1, none⟩ rfl _⟩
  · exact PrAt.put hB hb2 (by
    have hc : Lib.byteCells (l ++ [c]) = Lib.byteCells l ++ [.int .u8 (c.toNat : Int)] := byteCells_app l [c]
    rw [hc]
    simpa using hown')
  · exact ((hb1.alloc (by have := hb1.size; omega) _).grown hgrow (by have := hb1.size; simp; omega) (fun k hk => (hown.lt k hk).1)).setCell (p := ⟨b, 1, none⟩) hB _
set_option maxHeartbeats 2000000 in
set_option maxRecDepth 100000 in
theorem pstring (B b : Nat) (l t : Bs) (ls : Bool) (n : Int) (w : World) (h : Prn B b l ls n w) (hl : l.length + t.length ≤ 140737488355328) (hBw : B ≤ w.heap.size) :
    Calls Tryz.prog 91 #[.pointer (some ⟨b, 0, none⟩), .string (st t)] w fun e w' => (∃ m, e = .returned (.tuple #[.int .i64 m, .nilIface])) ∧ PrW B b (l ++ t) ls n w w' := by
  obtain ⟨i0, hi, hz0, hz1, hz2⟩ := info_parts prn_byte
  have HC := hq (pcheck B b l ls n w h)
  have hst : (st t).size = t.length := st_size t
  clear h
  have hcells : Lib.strCells (st t) = Lib.byteCells t := rfl
  generalize st t = s at *
  go_enter Tryz.func91, Tryz.ntmps91
  go_wp2_with fail
  refine HC.o.mono ?_
  rintro e w1 ⟨rfl, h1, hb1, hk1⟩
  obtain ⟨hB, v, hbk, hown⟩ := h1
  have hne := Lib.ownBlock_ne hown hbk pr_ne
  have c0 : w1.cell? ⟨b, 0, none⟩ = some (.pointer (some ⟨b, 0, none⟩)) := by rw [Lib.cell_of_heap hbk]; rfl
  have c1 : w1.cell? ⟨b, 1, none⟩ = some v := by rw [Lib.cell_of_heap hbk]; rfl
  go_wp2_with (at_builtin; refine Lib.wpList_append_own_string _ rfl _ _ 96 9 rfl B 5 i0 (by kernel_rfl) (by kernel_rfl) hi hz0 hz1 hz2 _ _ _ rfl hown s rfl ?c3 ?c4 ?c5 ?_)
  case c3 => unfold maxLen; omega
  case c4 => omega
  case c5 => have := hb1.size; omega
  intro v' w2 hown' hgrow _
  have hlt : b < w1.heap.size := (Array.getElem?_eq_some_iff.1 hbk).1
  have hb2 : w2.heap[b]? = some (.cells #[.pointer (some ⟨b, 0, none⟩), v, .bool ls, .int .i64 n] 100 (0, 0)) := by
    rw [hgrow.block b hlt (fun e => hne e.symm)]
    exact hbk
  have d0 : w2.cell? ⟨b, 0, none⟩ = some (.pointer (some ⟨b, 0, none⟩)) := by rw [Lib.cell_of_heap hb2]; rfl
  have d1 : w2.cell? ⟨b, 1, none⟩ = some v := by rw [Lib.cell_of_heap hb2]; rfl
  have f1 : w2.frozen? ⟨b, 1, none⟩ = false := Lib.frozen_of_heap hb2 1
  obtain ⟨ao, n', cap, rfl⟩ : ∃ ao n' cap, v' = .slice ao n' cap := by
    rcases hown'.2 with ⟨hv, _⟩ | ⟨g, cap, cur, hv, _⟩
    · exact ⟨_, _, _, hv⟩
    · exact ⟨_, _, _, hv⟩
  go_wp2
  go_ret2
  refine ⟨⟨_, rfl⟩, .inr ?_, ?_, (hk1.grown hgrow (own_kind hown)).setCell ⟨b, 1, none⟩ rfl _⟩
  · exact PrAt.put hB hb2 (by rw [byteCells_app, List.length_append]; exact hown')
  · exact (hb1.grown hgrow (by have := hb1.size; omega) (fun k hk => (hown.lt k hk).1)).setCell (p := ⟨b, 1, none⟩) hB _
end Go.Proofs.YtkafjblfjdpdaaaGreatDoor

