/-
  WALKS: json's reader: object; what is behind a value's first token.
  WALKS: json's reader: value.
  WALKS: json's reader: value, whole.
  WALKS: json.Parse.
  WALKS: json.Parse, whole.
  WALKS: small() of layer 5.
-/
import Derived.Test.YtmomildkopainaaDoorJsO
import Derived.Test.YtmomildkopainaaDoorLexAlone
namespace Go.Proofs.YtmomildkopainaaDoor
open Go.RowKit Go.WideMaps Go.Maps

def RestPost (w0 : World) (g : Nat) (s : ByteArray) (ob : Bool) (d : Nat) (r : RS) (k : Nat) (W : World) (e : Ending) (W' : World) : Prop :=
  match listM (valueM s.size (keyTx s) d) ob s.size (keyTx s) k (nbl r.ts) r.ns with
  | .inl (wh, er) => e = .returned (.bool false) ∧ ∃ r', Rd w0 g s r' W' ∧ Fr (r.own g) (r'.own g) W W' ∧ r'.wh = (wh : Int) ∧ r'.er = er
  | .inr (l, ns) => e = .returned (.bool true) ∧ ∃ r', Rd w0 g s r' W' ∧ Fr (r.own g) (r'.own g) W W' ∧ nbl r'.ts = l ∧ r'.ns = ns
theorem Fr.shrink {g : Nat} {M : Nat → Prop} {r r' : RS} {W W1 W' : World} (h : Fr (OM g M r) (OM g M r') W1 W') (hb : Below W.heap.size W W1) (hM : ∀ k, M k → W.heap.size ≤ k) : Fr (r.own g) (r'.own g) W W' :=
  ⟨h.os.trans hb.os, h.tape.trans hb.tape, h.output.trans hb.output, Nat.le_trans hb.size h.size, fun k hk hn => (h.block k (Nat.lt_of_lt_of_le hk hb.size) fun ho => ho.elim hn fun hm => by have := hM k hm; omega).trans (hb.block k hk),
    fun k hk => (h.own k (.inl hk)).elim (fun ho => ho.imp id (hM k)) fun h' => .inr (Nat.le_trans hb.size h')⟩
theorem rest_of {w0 : World} {g : Nat} {s : ByteArray} {M : Nat → Prop} {ob : Bool} {d : Nat} {r : RS} {k : Nat} {W W1 W' : World} {e : Ending} (h : ListPost w0 g s M ob d r k W1 e W') (hb : Below W.heap.size W W1) (hM : ∀ k, M k → W.heap.size ≤ k) : (∃ b : Bool, e = .returned (.bool b)) ∧ RestPost w0 g s ob d r k W e W' := by
  unfold ListPost at h
  unfold RestPost
  cases hv : listM (valueM s.size (keyTx s) d) ob s.size (keyTx s) k (nbl r.ts) r.ns with
  | inl p =>
    rw [hv] at h
    obtain ⟨h1, r', h2, h3, h4, h5⟩ := h
    exact ⟨⟨false, h1⟩, h1, r', h2, h3.shrink hb hM, h4, h5⟩
  | inr p =>
    rw [hv] at h
    obtain ⟨h1, r', h2, h3, h4, h5⟩ := h
    exact ⟨⟨true, h1⟩, h1, r', h2, h3.shrink hb hM, h4, h5⟩
set_option maxHeartbeats 1000000 in
set_option maxRecDepth 1000000 in
theorem jobject_any {w0 : World} {g : Nat} {s : ByteArray} {d L : Nat} (hL : L < 1000000) (hs : s.size ≤ 65536) (hT : tabs w0) (HV : ValOk w0 g s d (L + 1)) {r : RS} {W : World} (h : Rd w0 g s r W) {k : Nat} (hk : k < r.nv.length) :
    Calls Tryd.prog 78 #[.pointer (some ⟨g, 0, none⟩), .int .i64 (k : Int), .int .i64 (L : Int)] W (fun e W' => (∃ b : Bool, e = .returned (.bool b)) ∧ RestPost w0 g s true d r k W e W') := by
  obtain ⟨W4, hW4⟩ : ∃ W4, W4 = (((W.alloc (.cells #[.pointer (some ⟨g, 0, none⟩)] 64)).alloc (.cells #[.int .i64 (L : Int)] 3)).alloc (.map #[] 0)).alloc (.cells #[.map (some (W.heap.size + 1 + 1))] 157) := ⟨_, rfl⟩
  have hb1 := below_alloc W (.cells #[.pointer (some ⟨g, 0, none⟩)] 64)
  have hb2 := below_alloc (W.alloc (.cells #[.pointer (some ⟨g, 0, none⟩)] 64)) (.cells #[.int .i64 (L : Int)] 3)
  have hb3 := below_alloc ((W.alloc (.cells #[.pointer (some ⟨g, 0, none⟩)] 64)).alloc (.cells #[.int .i64 (L : Int)] 3)) (.map #[] 0)
  have hb4 := below_alloc (((W.alloc (.cells #[.pointer (some ⟨g, 0, none⟩)] 64)).alloc (.cells #[.int .i64 (L : Int)] 3)).alloc (.map #[] 0)) (.cells #[.map (some (W.heap.size + 1 + 1))] 157)
  have hbl : Below W.heap.size W W4 := by rw [hW4]; exact below_trans (below_trans (below_trans hb1 hb2) hb3) hb4
  have hol : ∀ k, r.own g k → k < W.heap.size := fun k hk => (h.own_lt k hk).2
  have hlo : ∀ (b : Nat) (t : TypeId) (cs : Array Value), W.heap.size ≤ b → Whole W4 b t cs → Lo (r.own g) W4 b t cs := fun b t cs hb hw => ⟨hw, fun ho => by have := hol b ho; omega⟩
  have w3 : Whole W4 W.heap.size 64 #[.pointer (some ⟨g, 0, none⟩)] := by rw [hW4]; exact (((Whole.made W _ _).alloc _).alloc _).alloc _
  have w5 : Whole W4 (W.heap.size + 1) 3 #[.int .i64 (L : Int)] := by
    have := ((Whole.made (W.alloc (.cells #[.pointer (some ⟨g, 0, none⟩)] 64)) 3 #[.int .i64 (L : Int)]).alloc (.map #[] 0)).alloc (.cells #[.map (some (W.heap.size + 1 + 1))] 157)
    rw [World.size_alloc] at this
    rw [hW4]; exact this
  have w7 : Whole W4 (W.heap.size + 1 + 1 + 1) 157 #[.map (some (W.heap.size + 1 + 1))] := by
    have := Whole.made (((W.alloc (.cells #[.pointer (some ⟨g, 0, none⟩)] 64)).alloc (.cells #[.int .i64 (L : Int)] 3)).alloc (.map #[] 0)) 157 #[.map (some (W.heap.size + 1 + 1))]
    simp only [World.size_alloc] at this
    rw [hW4]; exact this
  have hmap : HadIn W4 (W.heap.size + 1 + 1) [] := by
    have h0 : HadIn (((W.alloc (.cells #[.pointer (some ⟨g, 0, none⟩)] 64)).alloc (.cells #[.int .i64 (L : Int)] 3)).alloc (.map #[] 0)) (W.heap.size + 1 + 1) [] := by
      have := World.ownsMap_made (P := Tryd.prog) (k := 9) (R := plainElem (H := Unit) Tryd.prog 3) ((W.alloc (.cells #[.pointer (some ⟨g, 0, none⟩)] 64)).alloc (.cells #[.int .i64 (L : Int)] 3))
      simp only [World.size_alloc] at this
      exact this
    rw [hW4]
    exact h0.same (hb4.block _ h0.lt)
  have hj : JO w0 g L (W.heap.size + 1 + 1) W.heap.size (W.heap.size + 1 + 1 + 1) (W.heap.size + 1) 0 r [] W4 :=
    ⟨hlo _ _ _ (by omega) w3, hlo _ _ _ (by omega) w7, hlo _ _ _ (by omega) w5, fun ho => by have := hol _ ho; omega, by have := h.bl.size; omega, [], hmap, fun x => by simp, Nat.zero_le _⟩
  have HC := hq (jlist_any (M := fun k => k = W.heap.size + 1 + 1) (J := JO w0 g L (W.heap.size + 1 + 1) W.heap.size (W.heap.size + 1 + 1 + 1) (W.heap.size + 1) 0) (ob := true) (d := d) (enter_obj _) (fun r had W h hj => jobj1_any hL hs hT HV h hj) (fun r r' had W W' hj hf hn => hj.step hf hn) (h.grow hbl) hj hk)
  have HP : Hq (∀ (e : Ending) (W' : World), ListPost w0 g s (fun k => k = W.heap.size + 1 + 1) true d r k W4 e W' → (∃ b : Bool, e = .returned (.bool b)) ∧ RestPost w0 g s true d r k W e W') := hq (fun e W' hp => rest_of hp hbl (fun k hk => by omega))
  have hmf : ∀ fn first cap w, (Instr.makeFunc fn first cap).run Tryd.prog w = .ok (.func fn first cap) w := fun _ _ _ _ => rfl
  have hmm := @run_makeMap Tryd.prog
  have c3 := w3.at_ 0
  generalize ListPost w0 g s (fun k => k = W.heap.size + 1 + 1) true d r k W4 = LP at *
  generalize RestPost w0 g s true d r k W = PP at *
  rw [show ((jendM true : Nat) : Int) = 3 from rfl] at HC
  have HW4 := hq hW4
  clear hb1 hb2 hb3 hb4 hbl hol hlo w3 w5 w7 hmap hj h
  subst hW4
  go_enter Tryd.func78, Tryd.ntmps78
  go_wp2_with fail
  refine HC.o.mono ?_
  rintro e W2 hp
  obtain ⟨⟨b, rfl⟩, hpp⟩ := HP.o _ _ hp
  have HF := hq hpp
  clear hp hpp HC
  go_wp2_with fail
  first | exact ⟨⟨_, rfl⟩, HF.o⟩ | (go_ret; exact ⟨⟨_, rfl⟩, HF.o⟩)
end Go.Proofs.YtmomildkopainaaDoor

namespace Go.Proofs.YtmomildkopainaaDoor
open Go.RowKit Go.WideMaps Go.Maps

theorem infoNd : (Tryd.prog.info? 53).map (fun i => (i.zero, i.size, i.bytes)) = some (some (.agg #[.int .i64 0, .int .i64 0, .int .i64 0, .int .i64 0, .int .i64 0, .slice none 0 0, .slice none 0 0]), 7, 88) := by kernel_rfl
theorem enter_leaf (xs : Array Value) (w : World) : (callFunc 76 xs).run Tryd.prog w = .ok (.enter 76 xs) w := by kernel_rfl
theorem enter_array (xs : Array Value) (w : World) : (callFunc 77 xs).run Tryd.prog w = .ok (.enter 77 xs) w := by kernel_rfl
theorem enter_object (xs : Array Value) (w : World) : (callFunc 78 xs).run Tryd.prog w = .ok (.enter 78 xs) w := by kernel_rfl
theorem enter_rest (k : Nat) (xs : Array Value) (w : World) : (callFunc (restF k) xs).run Tryd.prog w = .ok (.enter (restF k) xs) w := by
  unfold restF
  split
  · exact enter_array xs w
  · split
    · exact enter_object xs w
    · exact enter_leaf xs w
/-- what stands behind a value's first token, read -/
def TailPost (w0 : World) (g : Nat) (s : ByteArray) (d kd : Nat) (r : RS) (k : Nat) (W : World) (e : Ending) (W' : World) : Prop :=
  (∃ b : Bool, e = .returned (.bool b)) ∧ if kindM kd = 5 then RestPost w0 g s false d r k W e W' else if kindM kd = 6 then RestPost w0 g s true d r k W e W' else e = .returned (.bool true) ∧ W = W'
theorem jtail_any {w0 : World} {g : Nat} {s : ByteArray} {d L : Nat} (hL : L < 1000000) (hs : s.size ≤ 65536) (hT : tabs w0) (HV : ValOk w0 g s d (L + 1)) {r : RS} {W : World} (h : Rd w0 g s r W) {k : Nat} (hk : k < r.nv.length) (kd : Nat) :
    Calls Tryd.prog (restF kd) #[.pointer (some ⟨g, 0, none⟩), .int .i64 (k : Int), .int .i64 (L : Int)] W (TailPost w0 g s d kd r k W) := by
  unfold TailPost restF
  by_cases h5 : kindM kd = 5
  · simp only [if_pos h5]
    exact (jarray_any hL HV h hk).mono fun e W' hp => rest_of hp (Below.refl _ _) (fun k hk => hk.elim)
  · simp only [if_neg h5]
    by_cases h6 : kindM kd = 6
    · simp only [if_pos h6]
      exact jobject_any hL hs hT HV h hk
    · simp only [if_neg h6]
      exact (jleaf_any _ _ _ W).mono fun e W' hp => ⟨⟨true, hp.1⟩, hp⟩
theorem app_ns (r : RS) (n : JN) (v : Value) : (r.app n v).ns = r.ns ++ [n] := by unfold RS.app RS.ns newN; simp
/-- what value answers, put together -/
theorem val_of {w0 : World} {g : Nat} {s : ByteArray} {d : Nat} {key : Nat × Nat} {r r1 : RS} {W W1 W' : World} {t : Tok} {l : List Tok} {n : Nat} (hts : nbl r.ts = t :: l) (h0 : kindM t.1 ≠ 0) (hn : r.ns.length ≠ 4096) (hts1 : nbl r1.ts = l) (hns1 : r1.ns = r.ns ++ [leafN t key]) (hF : Fr (r.own g) (r1.own g) W W1) (hR1 : Rd w0 g s r1 W1) (hl : r.nv.length = n) {b : Bool}
    (hp : if kindM t.1 = 5 then RestPost w0 g s false d r1 n W1 (.returned (.bool b)) W' else if kindM t.1 = 6 then RestPost w0 g s true d r1 n W1 (.returned (.bool b)) W' else Ending.returned (.bool b) = .returned (.bool true) ∧ W1 = W') :
    ValPost w0 g s r (d + 1) key W (.returned (.tuple #[.int .i64 (n : Int), .bool b])) W' := by
  have hln : r.ns.length = n := by rw [RS.ns_len, hl]
  have hrest : ∀ ob : Bool, RestPost w0 g s ob d r1 n W1 (.returned (.bool b)) W' → (match listM (valueM s.size (keyTx s) d) ob s.size (keyTx s) n l (r.ns ++ [leafN t key]) with
    | .inl (wh, er) => (∃ q : Int, Ending.returned (.tuple #[.int .i64 (n : Int), .bool b]) = .returned (.tuple #[.int .i64 q, .bool false])) ∧ ∃ r', Rd w0 g s r' W' ∧ Fr (r.own g) (r'.own g) W W' ∧ r'.wh = (wh : Int) ∧ r'.er = er
    | .inr (l, ns) => Ending.returned (.tuple #[.int .i64 (n : Int), .bool b]) = .returned (.tuple #[.int .i64 (r.nv.length : Int), .bool true]) ∧ ∃ r', Rd w0 g s r' W' ∧ Fr (r.own g) (r'.own g) W W' ∧ nbl r'.ts = l ∧ r'.ns = ns) := fun ob hp => by
    unfold RestPost at hp
    rw [hts1, hns1] at hp
    cases hv : listM (valueM s.size (keyTx s) d) ob s.size (keyTx s) n l (r.ns ++ [leafN t key]) with
    | inl p =>
      rw [hv] at hp
      obtain ⟨h1, r', h2, h3, h4, h5⟩ := hp
      cases h1
      exact ⟨⟨_, rfl⟩, r', h2, hF.trans h3, h4, h5⟩
    | inr p =>
      rw [hv] at hp
      obtain ⟨h1, r', h2, h3, h4, h5⟩ := hp
      cases h1
      exact ⟨by rw [hl], r', h2, hF.trans h3, h4, h5⟩
  unfold ValPost
  rw [hts]
  unfold valueM
  rw [if_neg h0, if_neg hn, hln]
  by_cases h5 : kindM t.1 = 5
  · rw [if_pos h5] at hp ⊢
    exact hrest false hp
  · rw [if_neg h5] at hp ⊢
    by_cases h6 : kindM t.1 = 6
    · rw [if_pos h6] at hp ⊢
      exact hrest true hp
    · rw [if_neg h6] at hp ⊢
      obtain ⟨h1, rfl⟩ := hp
      cases h1
      exact ⟨by rw [hl], r1, hR1, hF, hts1, hns1⟩
theorem val_bad {w0 : World} {g : Nat} {s : ByteArray} {d : Nat} {key : Nat × Nat} {r r' : RS} {W W' : World} {wh : Nat} {er q : Int} (hv : valueM s.size (keyTx s) d (nbl r.ts) key r.ns = .inl (wh, er)) (h1 : Rd w0 g s r' W') (h2 : Fr (r.own g) (r'.own g) W W') (h3 : r'.wh = (wh : Int)) (h4 : r'.er = er) : ValPost w0 g s r d key W (.returned (.tuple #[.int .i64 q, .bool false])) W' := by
  unfold ValPost
  rw [hv]
  exact ⟨⟨q, rfl⟩, r', h1, h2, h3, h4⟩
theorem valueM_0 {z : Nat} {tx : Nat → Nat → Bs} {d : Nat} {t : Tok} {l : List Tok} {key : Nat × Nat} {ns : List JN} (h : kindM t.1 = 0) : valueM z tx d (t :: l) key ns = .inl (t.2.1, 2) := by
  cases d <;> (unfold valueM; rw [if_pos h])
theorem valueM_nil {z : Nat} {tx : Nat → Nat → Bs} {d : Nat} {key : Nat × Nat} {ns : List JN} : valueM z tx d [] key ns = .inl (z, 2) := by
  cases d <;> rfl
theorem valueM_deep {z : Nat} {tx : Nat → Nat → Bs} {t : Tok} {l : List Tok} {key : Nat × Nat} {ns : List JN} (h : kindM t.1 ≠ 0) : valueM z tx 0 (t :: l) key ns = .inl (t.2.1, 5) := by
  unfold valueM; rw [if_neg h]
theorem valueM_many {z : Nat} {tx : Nat → Nat → Bs} {d : Nat} {t : Tok} {l : List Tok} {key : Nat × Nat} {ns : List JN} (h : kindM t.1 ≠ 0) (hn : ns.length = 4096) : valueM z tx (d + 1) (t :: l) key ns = .inl (t.2.1, 6) := by
  unfold valueM; rw [if_neg h, if_pos hn]
theorem nodeCells_snoc (l : List NV) (x : NV) : nodeCells (l ++ [x]) = nodeCells l ++ nodeC x := by unfold nodeCells; simp
theorem kindM_le (k : Nat) : kindM k ≤ 6 := by
  unfold kindM
  repeat (first | omega | split)
end Go.Proofs.YtmomildkopainaaDoor

namespace Go.Proofs.YtmomildkopainaaDoor
open Go.RowKit Go.WideMaps Go.Maps

set_option maxHeartbeats 4000000 in
set_option maxRecDepth 1000000 in
theorem jvalue_step {w0 : World} {g : Nat} {s : ByteArray} {d L : Nat} (hL : L + d = 33) (hs : s.size ≤ 65536) (hT : tabs w0) (HV : ∀ d', d = d' + 1 → ValOk w0 g s d' (L + 1)) : ValOk w0 g s d L := by
  intro r W ka kb h
  have HP := hq (fun (r' : RS) (W' : World) (wh : Nat) (er q : Int) => @val_bad w0 g s d (ka, kb) r r' W W' wh er q)
  have HPV := hq (fun (d' : Nat) (hd : d = d' + 1) => @val_of w0 g s d' (ka, kb) r)
  have HN := hq (jnext_any (h.grow (below_alloc W (.cells #[.int .i64 (ka : Int), .int .i64 (kb : Int)] 49))))
  have HL5 : Hq (Lo (r.own g) (W.alloc (.cells #[.int .i64 (ka : Int), .int .i64 (kb : Int)] 49)) W.heap.size 49 #[.int .i64 (ka : Int), .int .i64 (kb : Int)]) := hq (Lo.new (fun k hk => (h.own_lt k hk).2) _ _)
  have HF0 : Hq (Fr (r.own g) (r.own g) W (W.alloc (.cells #[.int .i64 (ka : Int), .int .i64 (kb : Int)] 49))) := hq (Fr.of_below _ (below_alloc W _))
  have hn4 := h.n4
  have hlz : (L : Int) ≤ 33 := by omega
  obtain ⟨PP, hPP⟩ : ∃ PP, PP = ValPost w0 g s r d (ka, kb) W := ⟨_, rfl⟩
  have HPP := hq hPP
  rw [← hPP]
  rw [← hPP] at HP
  clear h hPP
  go_enter Tryd.func29, Tryd.ntmps29
  go_wp2_with fail
  refine HN.o.mono ?_
  rintro e W2 ⟨ts, o, cap, rfl, hR, hF, hnb, hst⟩
  have HR2 := hq hR
  have HF2 := hq (HF0.o.trans hF)
  have HL2 := hq (HL5.o.step hF)
  have HNB := hq hnb
  clear hR hF hnb HN HL5 HF0
  rcases hst with rfl | ⟨t, l, rfl, ht⟩
  · unfold nextV
    dsimp only
    have hv : valueM s.size (keyTx s) d (nbl r.ts) (ka, kb) r.ns = .inl (s.size, 2) := by rw [← HNB.o]; exact valueM_nil
    have HVB := hq (fun r' W' => HP.o r' W' s.size 2 0 hv)
    have HW3 := hq (HR2.o.grow (below_alloc W2 (.cells #[.int .i64 0, .int .i64 0, .int .i64 0] 61)))
    have HF3 := hq (HF2.o.trans (Fr.of_below _ (below_alloc W2 (.cells #[.int .i64 0, .int .i64 0, .int .i64 0] 61))))
    have hc0 := HW3.o.cells.1
    have HC := hq (jfail_any HW3.o 2 (s.size : Int))
    clear hv HP HPV HR2 HF2 HL2 HNB HPP HV
    go_wp2_with fail
    refine HC.o.mono ?_
    rintro e W4 ⟨rfl, hR4, hF4⟩
    have HV2 := hq (HVB.o _ _ hR4 (HF3.o.trans hF4) rfl rfl)
    clear hR4 hF4
    go_wp2_with fail
    exact HV2.o
  · obtain ⟨kd, ta, tb⟩ := t
    unfold nextV
    dsimp only
    simp only at ht
    have HNB2 : Hq (nbl r.ts = (kd, ta, tb) :: nbl l) := hq (by rw [← HNB.o, nbl_cons, if_neg ht])
    have HW3 := hq (HR2.o.grow (below_alloc W2 (.cells #[.int .i64 (kd : Int), .int .i64 (ta : Int), .int .i64 (tb : Int)] 61)))
    have HF3 := hq (HF2.o.trans (Fr.of_below _ (below_alloc W2 (.cells #[.int .i64 (kd : Int), .int .i64 (ta : Int), .int .i64 (tb : Int)] 61))))
    have HL3 := hq (HL2.o.below (below_alloc W2 (.cells #[.int .i64 (kd : Int), .int .i64 (ta : Int), .int .i64 (tb : Int)] 61)))
    have HB3 : Hq (Lo (r.own g) (W2.alloc (.cells #[.int .i64 (kd : Int), .int .i64 (ta : Int), .int .i64 (tb : Int)] 61)) W2.heap.size 61 #[.int .i64 (kd : Int), .int .i64 (ta : Int), .int .i64 (tb : Int)]) := hq (Lo.new (fun k hk => (HR2.o.own_lt k hk).2) _ _)
    clear HR2 HF2 HL2 HNB
    go_upto_region 4 with fail
    generalize hW3 : W2.alloc (.cells #[.int .i64 (kd : Int), .int .i64 (ta : Int), .int .i64 (tb : Int)] 61) = W3 at *
    generalize W2.heap.size = b8 at *
    generalize W.heap.size = b5 at *
    clear hW3
    have x0 := HB3.o.cell 0
    have x1 := HB3.o.cell 1
    have HST := hq (jstep_any (.pointer (some ⟨g, 0, none⟩)) kd W3)
    go_wp2_with fail
    refine HST.o.mono ?_
    rintro e W4 ⟨rfl, hw4⟩
    rw [← hw4]
    clear hw4 HST
    have HC := hq (fun (er : Int) => jfail_any HW3.o er (ta : Int))
    by_cases hk0 : kindM kd = 0
    · have hv : valueM s.size (keyTx s) d (nbl r.ts) (ka, kb) r.ns = .inl (ta, 2) := by rw [HNB2.o]; exact valueM_0 hk0
      have HVB := hq (fun r' W' => HP.o r' W' ta 2 0 hv)
      have hkz : ((kindM kd : Nat) : Int) = 0 := by omega
      rw [hkz]
      clear hv HP HPV HPP HV hk0 HNB2
      go_wp2_with fail
      refine (HC.o 2).mono ?_
      rintro e W5 ⟨rfl, hR4, hF4⟩
      have HV2 := hq (HVB.o _ _ hR4 (HF3.o.trans hF4) rfl rfl)
      clear hR4 hF4
      go_wp2_with fail
      exact HV2.o
    · have hkz : ¬ ((kindM kd : Nat) : Int) = 0 := by omega
      have hkb : (((kindM kd : Nat) : Int) == 0) = false := beq_eq_false_iff_ne.2 hkz
      have HK0 := hq hk0
      cases d with
      | zero =>
        have hv : valueM s.size (keyTx s) 0 (nbl r.ts) (ka, kb) r.ns = .inl (ta, 5) := by rw [HNB2.o]; exact valueM_deep hk0
        have HVB := hq (fun r' W' => HP.o r' W' ta 5 0 hv)
        have hlz2 : (32 : Int) < (L : Int) := by omega
        clear hv HP HPV HPP HV hk0 HNB2
        generalize ((kindM kd : Nat) : Int) = kz at *
        go_wp2_with fail
        refine (HC.o 5).mono ?_
        rintro e W5 ⟨rfl, hR4, hF4⟩
        have HV2 := hq (HVB.o _ _ hR4 (HF3.o.trans hF4) rfl rfl)
        clear hR4 hF4
        go_wp2_with fail
        exact HV2.o
      | succ d =>
        have hlz2 : ¬ (32 : Int) < (L : Int) := by omega
        have d2 := HW3.o.cells.2.2.1
        obtain ⟨na, nc, hnv⟩ := row_shape HW3.o.nd
        simp only [RS.at] at d2 hnv
        rw [hnv] at d2
        by_cases hfull : r.nv.length = 4096
        · have hv : valueM s.size (keyTx s) (d + 1) (nbl r.ts) (ka, kb) r.ns = .inl (ta, 6) := by rw [HNB2.o]; exact valueM_many hk0 (by rw [RS.ns_len]; exact hfull)
          have HVB := hq (fun r' W' => HP.o r' W' ta 6 0 hv)
          have hfz : ((r.nv.length : Nat) : Int) = 4096 := by omega
          rw [hfull] at d2
          clear hv HP HPV HPP HV hk0 HNB2
          generalize ((kindM kd : Nat) : Int) = kz at *
          go_wp2_with fail
          refine (HC.o 6).mono ?_
          rintro e W5 ⟨rfl, hR4, hF4⟩
          have HV2 := hq (HVB.o _ _ hR4 (HF3.o.trans hF4) rfl rfl)
          clear hR4 hF4
          go_wp2_with fail
          exact HV2.o
        · have hfz : ¬ ((r.nv.length : Nat) : Int) = 4096 := by omega
          have hfb : (((r.nv.length : Nat) : Int) == 4096) = false := beq_eq_false_iff_ne.2 hfz
          obtain ⟨b, f, A, ho, hA, hcap, hR4⟩ := HW3.o.tail
          subst ho
          have hc1 := HW3.o.cells.2.1
          have hcf := HW3.o.cells.2.2.2.2.2
          simp only [RS.at, List.length_cons] at hc1
          obtain ⟨m, hm⟩ : ∃ m, m = l.length + 1 := ⟨_, rfl⟩
          rw [← hm] at hc1 hcap
          have hm0 : 0 < m := by omega
          have hmz : (0 : Int) < (m : Int) := by omega
          have hm1 : 1 ≤ m := by omega
          have hml : m - 1 = l.length := by omega
          have hfr := Fr.put r g W3 1 (.slice A l.length (cap - 1))
          have HF4 := hq (HF3.o.trans hfr)
          have HB4 := hq (HB3.o.step hfr)
          have HL4 := hq (HL3.o.step hfr)
          have HR4 := hq hR4
          have e2 := hR4.cells.2.2.1
          simp only [RS.at] at e2
          rw [hnv] at e2
          have HND := hq hnv
          clear hR4 hfr HW3 HF3 HB3 HL3 hm HC HP hnv
          generalize hkz0 : ((kindM kd : Nat) : Int) = kz at *
          go_upto_region 13 with fail
          generalize W3.setCell ⟨g, 1, none⟩ (.slice A l.length (cap - 1)) = W4 at *
          have x1 := HB4.o.cell 1
          have x2 := HB4.o.cell 2
          have y0 := HL4.o.cell 0
          have y1 := HL4.o.cell 1
          have hb5 := (below_alloc W4 (.cells #[.int .i64 kz, .int .i64 (ta : Int), .int .i64 (tb : Int), .int .i64 (ka : Int), .int .i64 (kb : Int), .slice none 0 0, .slice none 0 0] 53)).drew
          have HBL5 := hq hb5
          have HR5 := hq (HR4.o.grow hb5)
          have e2a := ((below_alloc W4 (.cells #[.int .i64 kz, .int .i64 (ta : Int), .int .i64 (tb : Int), .int .i64 (ka : Int), .int .i64 (kb : Int), .slice none 0 0, .slice none 0 0] 53)).cell (cell_blk' e2)).trans e2
          have HNR := hq HR5.o.nd
          simp only [RS.at] at HNR
          rw [HND.o] at HNR
          have hwx : w0.heap.size ≤ W4.heap.size := HR4.o.bl.size
          have hlt4 : r.nv.length < 4096 := by omega
          have HBK := hq HR5.o.blk
          have HNG := hq HR5.o.ng
          simp only [RS.at] at HBK HNG
          rw [HND.o] at HBK HNG
          obtain ⟨i1, hi1, hy0, hy1, hy2⟩ := info_parts infoNd
          clear hb5 d2
          go_region_law (refine step_at rfl (.tmp 79) (.tmp 85) 23 rfl w0.heap.size 53 i1 (.agg #[.int .i64 0, .int .i64 0, .int .i64 0, .int .i64 0, .int .i64 0, .slice none 0 0, .slice none 0 0]) 7 88 Tryd.underlying23 hi1 hy0 hy1 hy2 rfl (by decide) (.slice na r.nv.length nc) r.nv.length (nodeCells r.nv) (by simp [Act.eval]) HNR.o ⟨W4.heap.size, 0, none⟩ 1 1 [.int .i64 kz, .int .i64 (ta : Int), .int .i64 (tb : Int), .int .i64 (ka : Int), .int .i64 (kb : Int), .slice none 0 0, .slice none 0 0] (by simp [Act.eval]) rfl (cells_of_new W4 [.int .i64 kz, .int .i64 (ta : Int), .int .i64 (tb : Int), .int .i64 (ka : Int), .int .i64 (kb : Int), .slice none 0 0, .slice none 0 0] _) (by simp [Value.oneCell']) (by unfold maxLen; omega) (by omega) (by show w0.heap.size ≤ (W4.alloc _).heap.size; rw [World.size_alloc]; omega) ?_; intro v' W6 hown6 hgrow6 hat6; obtain ⟨g6, c6, rfl⟩ := row_shape1 hown6; have HWK := hq (whole_kept HBK.o hgrow6 (fun b e hb => HNG.o (by rw [e, hb]))); have f2 := HWK.o.at_ 2; have ff := HWK.o.free)
          all_goals
            have happ := HR5.o.app (n := leafN (kd, ta, tb) (ka, kb)) (v' := .slice (some ⟨g6, 0, none⟩) (r.nv.length + 1) c6) (W' := W6) rfl rfl hlt4 (by
              have e1 : nodeC (newN (leafN (kd, ta, tb) (ka, kb))) = [.int .i64 kz, .int .i64 (ta : Int), .int .i64 (tb : Int), .int .i64 (ka : Int), .int .i64 (kb : Int), .slice none 0 0, .slice none 0 0] := by rw [← hkz0]; rfl
              rw [nodeCells_snoc, e1]
              exact hown6) (by show World.grownBy _ W6 r.vN.ownBlock; rw [HND.o]; exact hgrow6) (by show _ = r.vN.ownBlock ∨ _; rw [HND.o]; exact hat6)
            obtain ⟨r7, HR7, HF7, hns7, hts7, hl7⟩ : ∃ r7 : RS, Hq (Rd w0 g s r7 (W6.setCell ⟨g, 2, none⟩ (.slice (some ⟨g6, 0, none⟩) (r.nv.length + 1) c6))) ∧ Hq (Fr (r.own g) (r7.own g) W (W6.setCell ⟨g, 2, none⟩ (.slice (some ⟨g6, 0, none⟩) (r.nv.length + 1) c6))) ∧ Hq (r7.ns = r.ns ++ [leafN (kd, ta, tb) (ka, kb)]) ∧ Hq (nbl r7.ts = nbl l) ∧ r7.nv.length = r.nv.length + 1 :=
              ⟨_, hq happ.1, hq ((HF4.o.trans (Fr.of_below _ HBL5.o)).trans happ.2), hq (app_ns _ _ _), hq rfl, by unfold RS.app RS.at; simp⟩
            clear happ hown6 hgrow6 hat6 HWK f2 ff HR5 HNR HBK HNG HBL5 HB4 HL4 HR4 HF4 x1 x2 y0 y1 e2 e2a
            go_simp
            generalize W6.setCell ⟨g, 2, none⟩ (.slice (some ⟨g6, 0, none⟩) (r.nv.length + 1) c6) = W7 at *
            have hcf2 := enter_rest kd
            have HC := hq (jtail_any (L := L) (by omega) hs hT (HV d rfl) HR7.o (show r.nv.length < r7.nv.length by omega) kd)
            have HFIN : Hq (∀ (e : Ending) (W' : World), TailPost w0 g s d kd r7 r.nv.length W7 e W' → ∃ b : Bool, e = .returned (.bool b) ∧ PP (.returned (.tuple #[.int .i64 (r.nv.length : Int), .bool b])) W') := hq (fun e W' hp => by
              obtain ⟨⟨b, rfl⟩, hp2⟩ := hp
              refine ⟨b, rfl, ?_⟩
              rw [HPP.o]
              exact HPV.o d rfl (t := (kd, ta, tb)) (l := nbl l) HNB2.o HK0.o (by rw [RS.ns_len]; exact hfull) hts7.o hns7.o HF7.o HR7.o rfl hp2)
            generalize TailPost w0 g s d kd r7 r.nv.length W7 = TP at *
            generalize restF kd = FF at *
            clear HPV HV HPP HNB2 HK0 HR7 HF7 hns7 hts7
            go_wp2_with fail
            refine HC.o.mono ?_
            rintro e W8 hp
            obtain ⟨b, rfl, hpp⟩ := HFIN.o _ _ hp
            have HV2 := hq hpp
            clear hp hpp HC HFIN
            go_wp2_with fail
            exact HV2.o
/-- value's contract, at every level -/
theorem jvalue_any {w0 : World} {g : Nat} {s : ByteArray} (hs : s.size ≤ 65536) (hT : tabs w0) : ∀ (d L : Nat), L + d = 33 → ValOk w0 g s d L
  | 0, L, hL => jvalue_step hL hs hT (fun d' h => by omega)
  | d + 1, L, hL => jvalue_step hL hs hT (fun d' h => by
    obtain rfl : d = d' := by omega
    exact jvalue_any hs hT d (L + 1) (by omega))
end Go.Proofs.YtmomildkopainaaDoor

namespace Go.Proofs.YtmomildkopainaaDoor
open Go.RowKit

theorem row_base' {w : World} {B B' e size n : Nat} {v : Value} {xs : List Value} (h : w.ownsRow B e size v n xs) (hb : B' ≤ B) : w.ownsRow B' e size v n xs := by
  refine ⟨h.1, ?_⟩
  rcases h.2 with h1 | ⟨g, cap, cur, h1, h2, h3⟩
  · exact .inl h1
  · exact .inr ⟨g, cap, cur, h1, Nat.le_trans hb h2, h3⟩
/-- the nodes of a Doc, as they lie in memory -/
structure DocIn (B : Nat) (nv : List NV) (vN : Value) (W : World) : Prop where
  nd : W.ownsRow B 53 7 vN nv.length (nodeCells nv)
  kr : ∀ i (hi : i < nv.length), W.ownsRow B 3 1 nv[i].k nv[i].n.kids.length (kidC nv[i].n.kids)
  pr : ∀ i (hi : i < nv.length), W.ownsRow B 49 2 nv[i].p nv[i].n.pcs.length (pcC nv[i].n.pcs)
  ak : ∀ i j (hi : i < nv.length) (hj : j < nv.length), i ≠ j → ∀ q, nv[i].k.ownBlock = some q → nv[j].k.ownBlock ≠ some q
  ap : ∀ i j (hi : i < nv.length) (hj : j < nv.length), i ≠ j → ∀ q, nv[i].p.ownBlock = some q → nv[j].p.ownBlock ≠ some q
  n4 : nv.length ≤ 4096
  kl : ∀ i (hi : i < nv.length), nv[i].n.kids.length ≤ nv.length ∧ nv[i].n.pcs.length ≤ nv.length
theorem Rd.doc {w0 W : World} {g : Nat} {s : ByteArray} {r : RS} (h : Rd w0 g s r W) {B : Nat} (hB : B ≤ w0.heap.size) : DocIn B r.nv r.vN W :=
  ⟨row_base' h.nd hB, fun i hi => row_base' (h.kr i hi) hB, fun i hi => row_base' (h.pr i hi) hB, h.ak, h.ap, h.n4, h.kl⟩
theorem DocIn.grow {B : Nat} {nv : List NV} {vN : Value} {W W' : World} (h : DocIn B nv vN W) (hb : Below W.heap.size W W') : DocIn B nv vN W' := by
  have hg : W.grownBy W' none := ⟨hb.os, hb.tape, hb.output, hb.size, fun j hj _ => hb.block j hj⟩
  have hn : ∀ (v : Value) (b : Nat), (none : Option Nat) = some b → v.ownBlock ≠ some b := fun v b e => by cases e
  exact ⟨row_kept h.nd hg (hn _), fun i hi => row_kept (h.kr i hi) hg (hn _), fun i hi => row_kept (h.pr i hi) hg (hn _), h.ak, h.ap, h.n4, h.kl⟩
def docA (s : Bs) (vN : Value) : Value := .agg #[.string (st s), vN]
def JParsePost (s : ByteArray) (W : World) (e : Ending) (W' : World) : Prop :=
  match jparseM s with
  | .inl (wh, er) => e = .returned (.tuple #[.agg #[.string ⟨#[]⟩, .slice none 0 0], .int .i64 (wh : Int), .int .i64 er]) ∧ Below W.heap.size W W'
  | .inr ns => ∃ nv vN, e = .returned (.tuple #[.agg #[.string s, vN], .int .i64 (s.size : Int), .int .i64 0]) ∧ DocIn W.heap.size nv vN W' ∧ nv.map NV.n = ns ∧ Below W.heap.size W W'
def set2 (w : World) (b : Nat) (u0 u1 : Value) : World := (w.setCell ⟨b, 0, none⟩ u0).setCell ⟨b, 1, none⟩ u1
theorem whole_set2 {w : World} {b : Nat} {T : TypeId} {x y : Value} (h : Whole w b T #[x, y]) (u0 u1 : Value) : Whole (set2 w b u0 u1) b T #[u0, u1] := (h.put 0 u0).put 1 u1
theorem below_set2 {B b : Nat} {a w : World} (h : Below B a w) (hb : B ≤ b) (u0 u1 : Value) : Below B a (set2 w b u0 u1) := (h.setCell (p := ⟨b, 0, none⟩) hb u0).setCell (p := ⟨b, 1, none⟩) hb u1
theorem Fr.far2 {w : World} {b : Nat} {o : Nat → Prop} (ho : ¬ o b) (u0 u1 : Value) : ∀ k, o k → (set2 w b u0 u1).heap[k]? = w.heap[k]? := fun k hk => by
  have hne : k ≠ b := fun e => ho (e ▸ hk)
  unfold set2
  rw [Below.heap_setCell _ _ _ _ hne, Below.heap_setCell _ _ _ _ hne]
theorem DocIn.far {B : Nat} {nv : List NV} {vN : Value} {W : World} (h : DocIn B nv vN W) {b : Nat} (hb : b < B) (u0 u1 : Value) : DocIn B nv vN (set2 W b u0 u1) := by
  have hg : W.grownBy (set2 W b u0 u1) (some b) := ⟨rfl, rfl, rfl, by simp [set2, World.setCell], fun k _ hne => by
    have hk : k ≠ b := fun e => hne (by rw [e])
    unfold set2
    rw [Below.heap_setCell _ _ _ _ hk, Below.heap_setCell _ _ _ _ hk]⟩
  have hn : ∀ {e size n : Nat} {v : Value} {xs : List Value}, W.ownsRow B e size v n xs → ∀ b', some b = some b' → v.ownBlock ≠ some b' := fun ho b' e hq => by
    cases e
    have := (ho.lt b hq).1
    omega
  exact ⟨row_kept h.nd hg (hn h.nd), fun i hi => row_kept (h.kr i hi) hg (hn (h.kr i hi)), fun i hi => row_kept (h.pr i hi) hg (hn (h.pr i hi)), h.ak, h.ap, h.n4, h.kl⟩
theorem tok_size {s : ByteArray} (h : (tokensM s).2.2 = 0) : s.size ≤ 65536 := by
  unfold tokensM at h
  split at h
  · exact absurd h (by decide)
  · omega
/-- the reader as it begins -/
theorem Rd.start {w3 : World} {s : ByteArray} {l : List Tok} {B : Nat} {v : Value} (hrow : w3.ownsRow B 61 3 v l.length (tokCells l)) (hsp : ∀ t ∈ l, t.2.1 ≤ t.2.2 ∧ t.2.2 ≤ s.size) :
    ∃ o cap, v = .slice o l.length cap ∧ Rd w3 w3.heap.size s ⟨l, o, cap, [], .slice none 0 0, 0, 0⟩ (w3.alloc (.cells #[.string s, v, .slice none 0 0, .int .i64 0, .int .i64 0] 66)) := by
  have hmk : ∀ o cap, v = .slice o l.length cap → TokIn w3 o l → l.length ≤ cap → cap ≤ maxLen → Rd w3 w3.heap.size s ⟨l, o, cap, [], .slice none 0 0, 0, 0⟩ (w3.alloc (.cells #[.string s, v, .slice none 0 0, .int .i64 0, .int .i64 0] 66)) := fun o cap hv ht hl hm => by
    subst hv
    exact ⟨Whole.made w3 _ _, ⟨ht, hsp⟩, hl, hm, World.ownsRow_nil _ _ _ _, fun i hi => absurd hi (Nat.not_lt_zero _), fun i hi => absurd hi (Nat.not_lt_zero _), fun i j hi => absurd hi (Nat.not_lt_zero _), fun i j hi => absurd hi (Nat.not_lt_zero _), below_alloc w3 _, Nat.le_refl _, Nat.zero_le _, fun i hi => absurd hi (Nat.not_lt_zero _)⟩
  rcases hrow.2 with ⟨hv, h0⟩ | ⟨gT, cap, cur, hv, _, _, hc, hm, _⟩
  · refine ⟨none, 0, by rw [hv, h0], hmk none 0 (by rw [hv, h0]) (fun i hi => by omega) (by omega) (Nat.zero_le _)⟩
  · by_cases hl : 0 < l.length
    · obtain ⟨gT', cap', hv', _, _, hc', hm', _, hcell⟩ := toks_cell hrow hl
      refine ⟨some ⟨gT', 0, none⟩, cap', hv', hmk _ _ hv' (fun i hi => ⟨gT', 0, rfl, ?_⟩) hc' hm'⟩
      have := hcell i l[i] (List.getElem?_eq_getElem hi)
      simp only [Nat.zero_add]
      exact this
    · refine ⟨_, cap, hv, hmk _ _ hv (fun i hi => by omega) hc hm⟩
end Go.Proofs.YtmomildkopainaaDoor

namespace Go.Proofs.YtmomildkopainaaDoor
open Go.RowKit

theorem jparse_bad {s : ByteArray} {W W' : World} {wh : Nat} {er : Int} (h : jparseM s = .inl (wh, er)) (hb : Below W.heap.size W W') : JParsePost s W (.returned (.tuple #[.agg #[.string ⟨#[]⟩, .slice none 0 0], .int .i64 (wh : Int), .int .i64 er])) W' := by
  unfold JParsePost; rw [h]; exact ⟨rfl, hb⟩
theorem jparse_ok {s : ByteArray} {W W' : World} {ns : List JN} {nv : List NV} {vN : Value} (h : jparseM s = .inr ns) (hd : DocIn W.heap.size nv vN W') (hn : nv.map NV.n = ns) (hb : Below W.heap.size W W') : JParsePost s W (.returned (.tuple #[.agg #[.string s, vN], .int .i64 (s.size : Int), .int .i64 0])) W' := by
  unfold JParsePost; rw [h]; exact ⟨nv, vN, rfl, hd, hn, hb⟩
set_option maxHeartbeats 4000000 in
set_option maxRecDepth 1000000 in
theorem jparse_any (s : ByteArray) (W : World) (hT : tabs W) (hs : s.size ≤ maxLen) : Calls Tryd.prog 9 #[.string s] W (JParsePost s W) := by
  have hT1 := tabs_grow hT (below_alloc W (.cells #[.string ⟨#[]⟩, .slice none 0 0] 25))
  have HTK := hq (tokens4_any s _ hT1 hs)
  unfold TokPost at HTK
  have HT1 := hq hT1
  have HB1 := hq (below_alloc W (.cells #[.string ⟨#[]⟩, .slice none 0 0] 25))
  have HW1 := hq (Whole.made W 25 #[.string ⟨#[]⟩, .slice none 0 0])
  have HBAD := hq (fun (W' : World) (wh : Nat) (er : Int) => @jparse_bad s W W' wh er)
  have HOK := hq (fun (W' : World) (ns : List JN) (nv : List NV) (vN : Value) => @jparse_ok s W W' ns nv vN)
  have HMEM := hq (fun x hx => (@tokensM_mem s x hx))
  have HSZ := hq (@tok_size s)
  have HPM : Hq (jparseM s = if (tokensM s).2.2 ≠ 0 then .inl (tokensM s).2 else match valueM s.size (keyTx s) 32 (nbl (tokensM s).1) (0, 0) [] with
    | .inl e => .inl e
    | .inr (l, ns) => if l = [] then .inr ns else .inl (((l.head?).map fun t => t.2.1).getD 0, 2)) := hq rfl
  generalize jparseM s = PM at *
  generalize JParsePost s W = PP at *
  generalize tokensM s = TM at *
  obtain ⟨toks, ta, te⟩ := TM
  simp only at HTK HMEM HSZ HPM
  clear hT hT1
  by_cases hte : te = 0
  · subst hte
    have HSZ2 := HSZ.o rfl
    go_enter Tryd.func9, Tryd.ntmps9
    go_wp2_with fail
    refine HTK.o.mono ?_
    rintro e W3 ⟨v, rfl, hrow, hb3⟩
    obtain ⟨o, cap, rfl, hR⟩ := Rd.start (w3 := W3) (s := s) hrow (fun t ht => ⟨Nat.le_of_lt (HMEM.o t ht).1, (HMEM.o t ht).2.1⟩)
    have hT3 := tabs_grow HT1.o hb3
    have HB3 := hq (below_trans HB1.o hb3)
    have HD3 := hq (HW1.o.grow hb3)
    have HC := hq (jvalue_any HSZ2 hT3 32 1 rfl _ _ 0 0 hR)
    unfold ValPost at HC
    have HWL : W.heap.size < W3.heap.size := HD3.o.lt
    rw [if_neg (by simp)] at HPM
    simp only [RS.ns, List.map_nil] at HC
    clear hrow hb3 hR HTK HW1 HB1 HMEM HSZ
    cases hv : valueM s.size (keyTx s) 32 (nbl toks) (0, 0) [] with
    | inl e =>
      obtain ⟨wh, er⟩ := e
      rw [hv] at HC HPM
      simp only at HC HPM
      have HBD := hq (fun W' => HBAD.o W' wh er HPM.o)
      clear hv HBAD HOK HPM
      go_wp2_with fail
      refine HC.o.mono ?_
      rintro e W4 ⟨⟨q, rfl⟩, r4, hR4, hF4, hwh, her⟩
      have HR4 := hq hR4
      have k3 := hR4.cells.2.2.2.1
      have k4 := hR4.cells.2.2.2.2.1
      rw [hwh] at k3
      rw [her] at k4
      have hD4 : Whole W4 W.heap.size 25 #[.string ⟨#[]⟩, .slice none 0 0] := HD3.o.kept hR4.bl HWL
      have HD5 := hq (show Whole (set2 W4 W.heap.size (.string ⟨#[]⟩) (.slice none 0 0)).drew W.heap.size 25 #[.string ⟨#[]⟩, .slice none 0 0] from whole_set2 hD4 (.string ⟨#[]⟩) (.slice none 0 0))
      have HV := hq (HBD.o _ (below_set2 (below_trans HB3.o hR4.bl) (Nat.le_refl _) (.string ⟨#[]⟩) (.slice none 0 0)).drew)
      have y0 := hD4.at_ 0
      have y1 := hD4.at_ 1
      have yf := hD4.free
      have HZ := hq (And.intro (HD5.o.at_ 0) (HD5.o.at_ 1))
      unfold set2 at HV HZ
      clear hR4 hF4 hwh her hD4 HR4 HC HBD HD5
      go_wp2_with fail
      go_region
      all_goals
        go_wp2_with fail
        refine bodyPost_ret (v := .tuple #[.agg #[.string ⟨#[]⟩, .slice none 0 0], .int .i64 (wh : Int), .int .i64 er]) ?_ rfl HV.o
        obtain ⟨z0, z1⟩ := HZ.o
        simp [results, Tryd.results9, go_sem] at z0 z1 ⊢
        simp [z0, z1]
    | inr p =>
      obtain ⟨l, ns⟩ := p
      rw [hv] at HC HPM
      simp only at HC HPM
      clear hv
      go_wp2_with fail
      refine HC.o.mono ?_
      rintro e W4 ⟨rfl, r4, hR4, hF4, hts4, hns4⟩
      have HN := hq (jnext_any hR4)
      have HNS := hq hns4
      have HTS := hq hts4
      clear hR4 hF4 hts4 hns4 HC
      go_wp2_with fail
      refine HN.o.mono ?_
      rintro e W5 ⟨ts, o5, cap5, rfl, hR5, hF5, hnb, hst⟩
      rcases hst with rfl | ⟨t, l', rfl, ht⟩
      · have hl : l = [] := by rw [← HTS.o, ← hnb]; rfl
        have HPM2 : Hq (PM = .inr ns) := hq (by rw [HPM.o, if_pos hl])
        unfold nextV
        dsimp only
        have hR6 := hR5.grow (below_alloc W5 (.cells #[.int .i64 0, .int .i64 0, .int .i64 0] 61))
        have hD6 : Whole (W5.alloc (.cells #[.int .i64 0, .int .i64 0, .int .i64 0] 61)) W.heap.size 25 #[.string ⟨#[]⟩, .slice none 0 0] := HD3.o.kept hR6.bl HWL
        obtain ⟨na, nc, hnv⟩ := row_shape hR6.nd
        have k2 := hR6.cells.2.2.1
        rw [hnv] at k2
        have hD7 := whole_set2 hD6 (.string s) (.slice na (r4.at [] o5 cap5).nv.length nc)
        have hB6 := below_trans HB3.o hR6.bl
        have hdoc : DocIn W.heap.size r4.nv (.slice na (r4.at [] o5 cap5).nv.length nc) (set2 (W5.alloc (.cells #[.int .i64 0, .int .i64 0, .int .i64 0] 61)) W.heap.size (.string s) (.slice na (r4.at [] o5 cap5).nv.length nc)) := by
          have h1 := (hR6.doc (Nat.le_refl _)).far (b := W.heap.size) HWL (.string s) (.slice na (r4.at [] o5 cap5).nv.length nc)
          have h2 : (r4.at [] o5 cap5).vN = .slice na (r4.at [] o5 cap5).nv.length nc := hnv
          rw [h2] at h1
          have hlw : W.heap.size ≤ W3.heap.size := Nat.le_of_lt HWL
          exact ⟨row_base' h1.nd hlw, fun i hi => row_base' (h1.kr i hi) hlw, fun i hi => row_base' (h1.pr i hi) hlw, h1.ak, h1.ap, h1.n4, h1.kl⟩
        have HV := hq (HOK.o _ ns r4.nv _ HPM2.o hdoc HNS.o (below_set2 hB6 (Nat.le_refl _) _ _))
        have y0 := hD6.at_ 0
        have y1 := hD6.at_ 1
        have yf := hD6.free
        have HZ := hq (And.intro (hD7.at_ 0) (hD7.at_ 1))
        generalize (r4.at [] o5 cap5).nv.length = n6 at *
        unfold set2 at HV HZ
        clear hdoc hD6 hD7 hR5 hR6 hF5 hnb hnv hB6 HN HPM HPM2 HOK HBAD HTS
        go_wp2_with fail
        refine bodyPost_ret (v := .tuple #[.agg #[.string s, .slice na n6 nc], .int .i64 (s.size : Int), .int .i64 0]) ?_ rfl HV.o
        obtain ⟨z0, z1⟩ := HZ.o
        simp [results, Tryd.results9, go_sem, z0, z1]
      · obtain ⟨kd, ta2, tb2⟩ := t
        simp only at ht
        have hl : l = (kd, ta2, tb2) :: nbl l' := by rw [← HTS.o, ← hnb, nbl_cons, if_neg ht]
        have HPM2 : Hq (PM = .inl (ta2, 2)) := hq (by rw [HPM.o, hl, if_neg (by simp)]; rfl)
        unfold nextV
        dsimp only
        have hR6 := hR5.grow (below_alloc W5 (.cells #[.int .i64 (kd : Int), .int .i64 (ta2 : Int), .int .i64 (tb2 : Int)] 61))
        have hD6 : Whole (W5.alloc (.cells #[.int .i64 (kd : Int), .int .i64 (ta2 : Int), .int .i64 (tb2 : Int)] 61)) W.heap.size 25 #[.string ⟨#[]⟩, .slice none 0 0] := HD3.o.kept hR6.bl HWL
        have hne5 : W5.heap.size ≠ (⟨W.heap.size, 0, none⟩ : Addr).block := by
          have h1 := hR5.bl.size
          simp only
          omega
        have hwt := Whole.made W5 61 #[.int .i64 (kd : Int), .int .i64 (ta2 : Int), .int .i64 (tb2 : Int)]
        have x1 := hwt.at_ 1
        have x1a := (hwt.far (p := ⟨W.heap.size, 0, none⟩) hne5 (.string ⟨#[]⟩)).at_ 1
        have x1b := ((hwt.far (p := ⟨W.heap.size, 0, none⟩) hne5 (.string ⟨#[]⟩)).far (p := ⟨W.heap.size, 1, none⟩) hne5 (.slice none 0 0)).at_ 1
        clear hwt hne5
        have hD7 : Whole (set2 (W5.alloc (.cells #[.int .i64 (kd : Int), .int .i64 (ta2 : Int), .int .i64 (tb2 : Int)] 61)) W.heap.size (.string ⟨#[]⟩) (.slice none 0 0)).drew W.heap.size 25 #[.string ⟨#[]⟩, .slice none 0 0] := whole_set2 hD6 (.string ⟨#[]⟩) (.slice none 0 0)
        have hB6 := below_trans HB3.o hR6.bl
        have HV := hq (HBAD.o _ ta2 2 HPM2.o (below_set2 hB6 (Nat.le_refl _) (.string ⟨#[]⟩) (.slice none 0 0)).drew)
        have y0 := hD6.at_ 0
        have y1 := hD6.at_ 1
        have yf := hD6.free
        have HZ := hq (And.intro (hD7.at_ 0) (hD7.at_ 1))
        unfold set2 at HV HZ
        clear hD6 hD7 hR5 hR6 hF5 hnb hB6 HN HPM HPM2 HOK HBAD HTS HNS hl
        go_wp2_with fail
        go_region
        all_goals
          go_wp2_with fail
          refine bodyPost_ret (v := .tuple #[.agg #[.string ⟨#[]⟩, .slice none 0 0], .int .i64 (ta2 : Int), .int .i64 2]) ?_ rfl HV.o
          obtain ⟨z0, z1⟩ := HZ.o
          simp [results, Tryd.results9, go_sem] at z0 z1 ⊢
          simp [z0, z1]
  · have hteb : (te != 0) = true := bne_iff_ne.2 hte
    have HPM2 : Hq (PM = .inl (ta, te)) := hq (by rw [HPM.o, if_pos hte])
    have HBD := hq (fun W' => HBAD.o W' ta te HPM2.o)
    clear HOK HPM HMEM HSZ HBAD
    go_enter Tryd.func9, Tryd.ntmps9
    go_wp2_with fail
    refine HTK.o.mono ?_
    rintro e W3 ⟨v, rfl, hrow, hb3⟩
    obtain ⟨va, vc, rfl⟩ := row_shape hrow
    have hD3 := HW1.o.grow hb3
    have hD4 := whole_set2 hD3 (.string ⟨#[]⟩) (.slice none 0 0)
    have HV := hq (HBD.o _ (below_set2 (below_trans HB1.o hb3) (Nat.le_refl _) (.string ⟨#[]⟩) (.slice none 0 0)))
    have y0 := hD3.at_ 0
    have y1 := hD3.at_ 1
    have yf := hD3.free
    have HZ := hq (And.intro (hD4.at_ 0) (hD4.at_ 1))
    unfold set2 at HV HZ
    clear hD3 hD4 hrow hb3 HTK HBD HW1 HB1 hte
    go_wp2_with fail
    refine bodyPost_ret (v := .tuple #[.agg #[.string ⟨#[]⟩, .slice none 0 0], .int .i64 (ta : Int), .int .i64 te]) ?_ rfl HV.o
    obtain ⟨z0, z1⟩ := HZ.o
    simp [results, Tryd.results9, go_sem, z0, z1]
end Go.Proofs.YtmomildkopainaaDoor

namespace Go.Proofs.YtmomildkopainaaDoor
open Go.RowKit

theorem js1 : jparseM ⟨#[91, 49, 44, 32, 123, 34, 97, 34, 58, 50, 125, 93]⟩ = .inr [⟨5, 0, 12, 0, 0, [1, 2], [(1, 2), (3, 11)]⟩, ⟨3, 1, 2, 0, 0, [], []⟩, ⟨6, 4, 11, 0, 0, [3], [(5, 10)]⟩, ⟨3, 9, 10, 5, 8, [], []⟩] := by kernel_rfl
theorem js2 : jparseM ⟨#[123, 34, 97, 34, 58, 49, 44, 34, 92, 117, 48, 48, 54, 49, 34, 58, 50, 125]⟩ = .inl (7, 7) := by kernel_rfl
theorem js3 : jparseM ⟨#[91, 49, 44, 93]⟩ = .inl (3, 2) := by kernel_rfl
theorem eq_spanJ (a b a' b' : Int) : ∀ W : World, (Op.equalIn 10000 49 (.agg #[.int .i64 a, .int .i64 b]) (.agg #[.int .i64 a', .int .i64 b'])).run Tryd.prog W = .ok ((a == a') && (b == b')) W := by
  intro W
  have h23 := Tryd.underlying49
  have hst2 : Tryd.prog.stoodInHeld 49 = false := by kernel_rfl
  go_simp
  by_cases h1 : a = a' <;> by_cases h2 : b = b' <;> simp [h1, h2]
theorem DocIn.node {B : Nat} {nv : List NV} {vN : Value} {W : World} (h : DocIn B nv vN W) {k : Nat} (hk : k < nv.length) : ∃ gN cap, vN = .slice (some ⟨gN, 0, none⟩) nv.length cap ∧ nv.length ≤ cap ∧ cap ≤ maxLen ∧ gN < W.heap.size ∧ B ≤ gN ∧ (∀ o, W.frozen? ⟨gN, o, none⟩ = false) ∧ ∀ i (hi : i < nv.length) j, j < 7 → W.cell? ⟨gN, i * 7 + j, none⟩ = (nodeC nv[i])[j]? := by
  rcases h.nd.2 with ⟨_, h0⟩ | ⟨gN, cap, cur, hv, hgb, hh, hc, hm, _⟩
  · omega
  · refine ⟨gN, cap, hv, hc, hm, (h.nd.lt gN (by rw [hv]; rfl)).2, hgb, fun o => frozen_of_row W gN o cur _ hh, fun i hi j hj => ?_⟩
    have hcl := h.nd.cells (g := gN) (by rw [hv]; rfl) (i * 7 + j)
    have ha := nodeCells_at nv i j hi hj
    have e1 : (⟨gN, 0, none⟩ : Addr).add (i * 7 + j) = ⟨gN, i * 7 + j, none⟩ := by rw [Addr.add_lit, Nat.zero_add]
    rw [e1, ha] at hcl
    cases hx : (nodeC nv[i])[j]? with
    | none =>
      have := List.getElem?_eq_none_iff.1 hx
      simp [nodeC] at this
      omega
    | some u => exact hcl u hx
theorem row_cells1 {w : World} {B e size n : Nat} {v : Value} {xs : List Value} (h : w.ownsRow B e size v (n + 1) xs) : ∃ g c, v = .slice (some ⟨g, 0, none⟩) (n + 1) c ∧ n + 1 ≤ c ∧ c ≤ maxLen ∧ ∀ j u, xs[j]? = some u → w.cell? ⟨g, j, none⟩ = some u := by
  rcases h.2 with ⟨_, h0⟩ | ⟨g, cap, cur, hv, _, _, hc, hm, _⟩
  · omega
  · refine ⟨g, cap, hv, hc, hm, fun j u hu => ?_⟩
    have := h.cells (g := g) (by rw [hv]; rfl) j u hu
    rw [Addr.add_lit, Nat.zero_add] at this
    exact this
theorem jparse_lit (a : Array UInt8) (hs : a.size ≤ 1000) (W : World) (hT : tabs W) : Calls Tryd.prog 9 #[.string ⟨a⟩] W (JParsePost ⟨a⟩ W) := jparse_any ⟨a⟩ W hT (by show a.size ≤ maxLen; unfold maxLen; omega)
theorem four_nv {nv : List NV} {a b c d : JN} (h : nv.map NV.n = [a, b, c, d]) : ∃ x0 x1 x2 x3, nv = [x0, x1, x2, x3] ∧ x0.n = a ∧ x2.n = c ∧ x3.n = d := by
  obtain ⟨x0, l0, rfl, h0, h⟩ := List.map_eq_cons_iff.1 h
  obtain ⟨x1, l1, rfl, h1, h⟩ := List.map_eq_cons_iff.1 h
  obtain ⟨x2, l2, rfl, h2, h⟩ := List.map_eq_cons_iff.1 h
  obtain ⟨x3, l3, rfl, h3, h⟩ := List.map_eq_cons_iff.1 h
  obtain rfl := List.map_eq_nil_iff.1 h
  exact ⟨x0, x1, x2, x3, rfl, h0, h2, h3⟩
set_option maxHeartbeats 1000000 in
set_option maxRecDepth 1000000 in
theorem jsmall_any (W : World) (hT : tabs W) : Calls Tryd.prog 7 #[] W fun e W' => e = .returned (.bool true) ∧ Below W.heap.size W W' := by
  have H1 := hq (jparse_lit #[91, 49, 44, 32, 123, 34, 97, 34, 58, 50, 125, 93] (by decide) W hT)
  have H2 := hq (fun WW (hb : Below W.heap.size W WW) => jparse_lit #[123, 34, 97, 34, 58, 49, 44, 34, 92, 117, 48, 48, 54, 49, 34, 58, 50, 125] (by decide) WW (tabs_grow hT hb))
  have H3 := hq (fun WW (hb : Below W.heap.size W WW) => jparse_lit #[91, 49, 44, 93] (by decide) WW (tabs_grow hT hb))
  unfold JParsePost at H1 H2 H3
  rw [js1] at H1
  rw [js2] at H2
  rw [js3] at H3
  simp only at H1 H2 H3
  have hsp := eq_spanJ
  clear hT
  go_enter Tryd.func7, Tryd.ntmps7
  go_wp2_with fail
  refine H1.o.mono ?_
  rintro e W1 ⟨nv, vN, rfl, hd, hn, hb1⟩
  obtain ⟨x0, x1, x2, x3, rfl, hn0, hn2, hn3⟩ := four_nv hn
  obtain ⟨gN, cN, rfl, _, hcm, _, _, _, _⟩ := hd.node (k := 0) (by simp)
  have HD1 := hq hd
  have HB1 := hq hb1
  clear hd hb1 hn H1
  simp only [List.length_cons, List.length_nil] at HD1 ⊢
  go_wp2_with fail
  have HD2 := hq (HD1.o.grow (below_alloc W1 (.cells #[.string ⟨#[91, 49, 44, 32, 123, 34, 97, 34, 58, 50, 125, 93]⟩, .slice (some ⟨gN, 0, none⟩) 4 cN] 25)))
  have HW2 := hq (Whole.made W1 25 #[.string ⟨#[91, 49, 44, 32, 123, 34, 97, 34, 58, 50, 125, 93]⟩, .slice (some ⟨gN, 0, none⟩) 4 cN])
  have HB2 := hq (below_trans HB1.o (below_alloc W1 (.cells #[.string ⟨#[91, 49, 44, 32, 123, 34, 97, 34, 58, 50, 125, 93]⟩, .slice (some ⟨gN, 0, none⟩) 4 cN] 25)))
  refine (H2.o _ HB2.o).mono ?_
  rintro e W3 ⟨rfl, hb3⟩
  have HD3 := hq ((HD2.o.grow hb3).grow (below_alloc W3 (.cells #[.string ⟨#[]⟩, .slice none 0 0] 25)))
  have HW3 := hq ((HW2.o.grow hb3).grow (below_alloc W3 (.cells #[.string ⟨#[]⟩, .slice none 0 0] 25)))
  have HB3 := hq (below_trans (below_trans HB2.o hb3) (below_alloc W3 (.cells #[.string ⟨#[]⟩, .slice none 0 0] 25)))
  clear hb3 H2 HD2 HW2 HB2 HD1 HB1
  go_wp2_with fail
  refine (H3.o _ HB3.o).mono ?_
  rintro e W5 ⟨rfl, hb5⟩
  have HD5 := hq ((HD3.o.grow hb5).grow (below_alloc W5 (.cells #[.string ⟨#[]⟩, .slice none 0 0] 25)))
  have HW5 := hq ((HW3.o.grow hb5).grow (below_alloc W5 (.cells #[.string ⟨#[]⟩, .slice none 0 0] 25)))
  have HB5 := hq (below_trans (below_trans HB3.o hb5) (below_alloc W5 (.cells #[.string ⟨#[]⟩, .slice none 0 0] 25)))
  clear hb5 H3 HD3 HW3 HB3
  go_upto_region 4 with fail
  generalize W5.alloc (.cells #[.string ⟨#[]⟩, .slice none 0 0] 25) = W6 at *
  generalize W1.heap.size = bD at *
  obtain ⟨gN', cN', hvv, _, _, _, _, hfN, hc⟩ := HD5.o.node (k := 0) (by simp)
  cases hvv
  have cD := HW5.o.at_ 1
  have c00 : W6.cell? ⟨gN, 0, none⟩ = some (.int .i64 5) := by have := hc 0 (by simp) 0 (by omega); simpa [nodeC, hn0] using this
  have c01 : W6.cell? ⟨gN, 1, none⟩ = some (.int .i64 0) := by have := hc 0 (by simp) 1 (by omega); simpa [nodeC, hn0] using this
  have c02 : W6.cell? ⟨gN, 2, none⟩ = some (.int .i64 12) := by have := hc 0 (by simp) 2 (by omega); simpa [nodeC, hn0] using this
  have c03 : W6.cell? ⟨gN, 3, none⟩ = some (.int .i64 0) := by have := hc 0 (by simp) 3 (by omega); simpa [nodeC, hn0] using this
  have c04 : W6.cell? ⟨gN, 4, none⟩ = some (.int .i64 0) := by have := hc 0 (by simp) 4 (by omega); simpa [nodeC, hn0] using this
  have c05 : W6.cell? ⟨gN, 5, none⟩ = some x0.k := by have := hc 0 (by simp) 5 (by omega); simpa [nodeC, hn0] using this
  have c06 : W6.cell? ⟨gN, 6, none⟩ = some x0.p := by have := hc 0 (by simp) 6 (by omega); simpa [nodeC, hn0] using this
  have c19 : W6.cell? ⟨gN, 19, none⟩ = some x2.k := by have := hc 2 (by simp) 5 (by omega); simpa [nodeC, hn2] using this
  have c24 : W6.cell? ⟨gN, 24, none⟩ = some (.int .i64 5) := by have := hc 3 (by simp) 3 (by omega); simpa [nodeC, hn3] using this
  have c25 : W6.cell? ⟨gN, 25, none⟩ = some (.int .i64 8) := by have := hc 3 (by simp) 4 (by omega); simpa [nodeC, hn3] using this
  have kr0 : W6.ownsRow W.heap.size 3 1 x0.k (1 + 1) (kidC [1, 2]) := by have := HD5.o.kr 0 (by simp); simp only [List.getElem_cons_zero, hn0] at this; exact this
  have pr0 : W6.ownsRow W.heap.size 49 2 x0.p (1 + 1) (pcC [(1, 2), (3, 11)]) := by have := HD5.o.pr 0 (by simp); simp only [List.getElem_cons_zero, hn0] at this; exact this
  have kr2 : W6.ownsRow W.heap.size 3 1 x2.k (0 + 1) (kidC [3]) := by have := HD5.o.kr 2 (by simp); simp only [List.getElem_cons_succ, List.getElem_cons_zero, hn2] at this; exact this
  obtain ⟨g0, e0, q0, _, _, r0⟩ := row_cells1 kr0
  obtain ⟨g1, e1, q1, _, _, r1⟩ := row_cells1 pr0
  obtain ⟨g2, e2, q2, _, _, r2⟩ := row_cells1 kr2
  rw [q0] at c05
  rw [q1] at c06
  rw [q2] at c19
  have k01 : W6.cell? ⟨g0, 1, none⟩ = some (.int .i64 2) := r0 1 _ rfl
  have p02 : W6.cell? ⟨g1, 2, none⟩ = some (.int .i64 3) := r1 2 _ rfl
  have p03 : W6.cell? ⟨g1, 3, none⟩ = some (.int .i64 11) := r1 3 _ rfl
  have k20 : W6.cell? ⟨g2, 0, none⟩ = some (.int .i64 3) := r2 0 _ rfl
  clear hc kr0 pr0 kr2 r0 r1 r2 q0 q1 q2 HD5 hfN
  have HB6 := hq (below_trans HB5.o (below_alloc W6 (.cells #[.int .i64 5, .int .i64 0, .int .i64 12, .int .i64 0, .int .i64 0, .slice (some ⟨g0, 0, none⟩) (1 + 1) e0, .slice (some ⟨g1, 0, none⟩) (1 + 1) e1] 53)))
  have hb7 := below_alloc W6 (.cells #[.int .i64 5, .int .i64 0, .int .i64 12, .int .i64 0, .int .i64 0, .slice (some ⟨g0, 0, none⟩) (1 + 1) e0, .slice (some ⟨g1, 0, none⟩) (1 + 1) e1] 53)
  go_upto_region 7 with fail
  replace cD := (hb7.cell (cell_blk' cD)).trans cD
  replace c19 := (hb7.cell (cell_blk' c19)).trans c19
  replace c24 := (hb7.cell (cell_blk' c24)).trans c24
  replace c25 := (hb7.cell (cell_blk' c25)).trans c25
  replace k01 := (hb7.cell (cell_blk' k01)).trans k01
  replace p02 := (hb7.cell (cell_blk' p02)).trans p02
  replace p03 := (hb7.cell (cell_blk' p03)).trans p03
  replace k20 := (hb7.cell (cell_blk' k20)).trans k20
  clear hb7
  go_wp2_with fail
  first | exact ⟨rfl, HB6.o⟩ | (go_ret; exact ⟨rfl, HB6.o⟩)
end Go.Proofs.YtmomildkopainaaDoor
