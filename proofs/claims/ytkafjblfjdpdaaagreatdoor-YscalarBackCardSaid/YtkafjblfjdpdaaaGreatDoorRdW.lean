/-
  PLAIN MATHEMATICS: what is printed is read.
-/
import Derived.Test.YtkafjblfjdpdaaaGreatDoorPrA
import Derived.Test.YtkafjblfjdpdaaaGreatDoorPrU
namespace Go.Proofs.YtkafjblfjdpdaaaGreatDoor
open Go.RowKit
structure ValT (T : ByteArray) (d a : Nat) (l : Bs) (v : Vl) (toks : List Tok) : Prop where
  nt : ∀ m, NT T (a + l.length) m → NT T a (toks ++ m)
  hd : ∃ t r, toks = t :: r ∧ kindM t.1 ≠ 0
  go : ∀ key ns r, ns.length + v.size ≤ 4096 → ∃ ns', valueM T.size (keyTx T) d (toks ++ r) key ns = .inr (r, ns') ∧ Rv T ns' d ns.length v v.size ∧ ns'.length = ns.length + v.size ∧ ∃ y, ns'[ns.length]? = some y ∧ y.ka = key.1 ∧ y.kb = key.2
structure KV (T : ByteArray) (d : Nat) (ob : Bool) (q : Bs × Vl) (ns ns' : List JN) : Prop where
  rv : Rv T ns' d ns.length q.2 q.2.size
  ln : ns'.length = ns.length + q.2.size
  ky : ob = true → ∃ y, ns'[ns.length]? = some y ∧ StrOk T y.ka y.kb ∧ q.1 = keyTx T y.ka y.kb
  at_ : ∀ i, i < ns.length → ns'[i]? = ns[i]?
structure KidT (T : ByteArray) (d : Nat) (ob : Bool) (a : Nat) (l : Bs) (q : Bs × Vl) (toks : List Tok) : Prop where
  nt : ∀ m, NT T (a + l.length) m → NT T a (toks ++ m)
  hd : ∃ t r, toks = t :: r ∧ t.1 ≠ jendM ob
  go : ∀ had ns r, (ob = true → q.1 ∉ had) → ns.length + q.2.size ≤ 4096 → ∃ ns', kidM (valueM T.size (keyTx T) d) ob T.size (keyTx T) had (toks ++ r) ns = .inr (if ob = true then had ++ [q.1] else had, r, ns') ∧ KV T d ob q ns ns'
structure LV (T : ByteArray) (d : Nat) (ob : Bool) (k : Nat) (x0 : JN) (its : List (Bs × Vl)) (ns ns' : List JN) : Prop where
  own : ∃ x idx, ns'[k]? = some x ∧ x.kd = x0.kd ∧ x.ka = x0.ka ∧ x.kb = x0.kb ∧ x.kids = x0.kids ++ idx ∧ idx.length = its.length ∧ ∀ i (hi : i < its.length), k < idx.getD i 0 ∧ Rv T ns' d (idx.getD i 0) its[i].2 its[i].2.size ∧ (ob = true → ∃ y, ns'[idx.getD i 0]? = some y ∧ StrOk T y.ka y.kb ∧ its[i].1 = keyTx T y.ka y.kb)
  ln : ns'.length = ns.length + Vl.sizes (its.map (·.2))
  at_ : ∀ i, i ≠ k → i < ns.length → ns'[i]? = ns[i]?
structure LoopT (T : ByteArray) (d : Nat) (ob : Bool) (a : Nat) (l : Bs) (its : List (Bs × Vl)) (toks : List Tok) : Prop where
  nt : ∀ m, NT T (a + l.length) m → NT T a (toks ++ m)
  hd : ∃ t r, toks = t :: r ∧ t.1 ≠ jendM ob
  ln : its.length ≤ toks.length
  go : ∀ k f had fr ns R x0, its.length ≤ f → ns[k]? = some x0 → (ob = true → ∀ q ∈ its, q.1 ∉ had) → (ob = true → (its.map (·.1)).Nodup) → ns.length + Vl.sizes (its.map (·.2)) ≤ 4096 →
    ∃ ns', loopM (valueM T.size (keyTx T) d) ob T.size (keyTx T) k f had fr (toks ++ R) ns = .inr (R, ns') ∧ LV T d ob k x0 its ns ns'
theorem NT_blank {T : ByteArray} {a : Nat} {l : Bs} {m : List Tok} (hat : At T a l) (hb : ∀ c ∈ l, isBlank c.toNat = true) (ha : a ≤ T.size) (h : NT T (a + l.length) m) : NT T a m :=
  h.congr (runTo_all T isBlank l.length a (hat.le ha) (fun j hj => by rw [hat.get j hj]; exact hb _ (List.getElem_mem _))).symm
theorem end_byte (ob : Bool) : signM (if ob = true then (125 : UInt8) else 93).toNat = jendM ob := by cases ob <;> rfl
theorem one_end {T : ByteArray} {a : Nat} (ob : Bool) (h : byt T a = (if ob = true then (125 : UInt8) else 93).toNat) : oneM T a = (jendM ob, a + 1, 0) := by
  unfold oneM
  simp only
  rw [h, end_byte, if_pos (by cases ob <;> decide)]
theorem term_of {T : ByteArray} {a : Nat} {ln0 : Bs} (hb : ∀ c ∈ ln0, isBlank c.toNat = true) (ob : Bool) {r : Bs} (hat : At T a (ln0 ++ ((if ob = true then 125 else 93) :: r))) : Term T a := by
  right
  cases ln0 with
  | nil =>
    rw [(At.cons hat).2.1]
    cases ob <;> exact ⟨rfl, rfl⟩
  | cons c l =>
    rw [(At.cons hat).2.1]
    have h := hb c (by simp)
    unfold isBlank at h
    unfold isNum isLet
    simp only [Bool.or_eq_true, beq_iff_eq] at h
    simp only [Bool.or_eq_false_iff, Bool.and_eq_false_iff, beq_eq_false_iff_ne, decide_eq_false_iff_not]
    omega
section
variable {T : ByteArray} {d : Nat} {ob : Bool} {kt : Bs × Vl → Bs} {ln ln0 : Bs}
theorem rd_loop_ok (hb : ∀ c ∈ ln, isBlank c.toNat = true) (hb0 : ∀ c ∈ ln0, isBlank c.toNat = true) : ∀ (r : List (Bs × Vl)) (x : Bs × Vl) (a : Nat),
    (∀ q ∈ x :: r, ∀ b, At T b (kt q) → b ≤ T.size → Term T (b + (kt q).length) → ∃ toks, KidT T d ob b (kt q) q toks) →
    At T a (ln ++ (kt x ++ ((r.flatMap fun y => 44 :: (ln ++ kt y)) ++ (ln0 ++ [if ob = true then 125 else 93])))) → a ≤ T.size →
    ∃ toks, LoopT T d ob a (ln ++ (kt x ++ ((r.flatMap fun y => 44 :: (ln ++ kt y)) ++ (ln0 ++ [if ob = true then 125 else 93])))) (x :: r) toks
  | [], x, a, hk, hat, ha => by
    rw [List.flatMap_nil, List.nil_append] at hat ⊢
    have h1 := hat.skip
    have hln := hat.take
    have hle1 := hln.le ha
    have h2 := h1.skip
    have hle2 := h1.take.le hle1
    obtain ⟨toks, hT⟩ := hk x (by simp) _ h1.take hle1 (term_of hb0 ob h2)
    have h3 := h2.skip
    have hle3 := h2.take.le hle2
    obtain ⟨h4, h5, _⟩ := h3.cons
    have ho := one_end ob h5
    have hj2 : jendM ob ≠ 1 := by cases ob <;> decide
    generalize hE : a + ln.length + (kt x).length + ln0.length = e at *
    refine ⟨toks ++ [(jendM ob, e, e + 1)], fun m hm => ?_, ?_, by simp, ?_⟩
    · simp only [List.length_append, List.length_singleton] at hm
      rw [show a + (ln.length + ((kt x).length + (ln0.length + 1))) = e + 1 by omega] at hm
      have n1 := NT_at h4 ho hj2 hm
      rw [← hE] at n1
      have n2 := NT_blank h2.take hb0 hle2 n1
      have n3 := hT.nt _ n2
      have n4 := NT_blank hln hb ha n3
      rw [hE] at n4
      simpa using n4
    · obtain ⟨t, q, e1, e2⟩ := hT.hd
      exact ⟨t, q ++ [(jendM ob, e, e + 1)], by rw [e1]; rfl, e2⟩
    · intro k f had fr ns R x0 hf hx0 hfr hnd hsz
      simp only [List.map_cons, List.map_nil, Vl.sizes] at hsz
      obtain ⟨g, rfl⟩ : ∃ g, f = g + 1 := ⟨f - 1, by simp only [List.length_cons] at hf; omega⟩
      obtain ⟨ns1, e1, hv⟩ := hT.go had ns ((jendM ob, e, e + 1) :: R) (fun h => hfr h x (by simp)) (by omega)
      have hkl := (List.getElem?_eq_some_iff.1 hx0).1
      have hk1 : ns1[k]? = some x0 := by rw [hv.at_ k hkl]; exact hx0
      have hln1 := hv.ln
      refine ⟨closeN (addN ns1 k ns.length (fr, e)) k (e + 1), ?_, ⟨⟨_, [ns.length], closeN_self (addN_self hk1), rfl, rfl, rfl, rfl, rfl, fun i hi => ?_⟩, ?_, fun i hi hi2 => ?_⟩⟩
      · rw [List.append_assoc, List.singleton_append]
        unfold loopM
        rw [e1]
        simp only
        rw [@takeM_yes T.size 6 (jendM ob) (jendM ob, e, e + 1) R (.inr rfl)]
        simp only
        rw [if_pos trivial]
      · obtain rfl : i = 0 := by simp only [List.length_cons, List.length_nil] at hi; omega
        have hmono : ∀ j, ns.length ≤ j → j < ns1.length → (closeN (addN ns1 k ns.length (fr, e)) k (e + 1))[j]? = ns1[j]? := fun j h1 h2 => by
          rw [closeN_at (by omega), addN_at (by omega)]
        refine ⟨hkl, hv.rv.mono hmono, fun h => ?_⟩
        obtain ⟨y, y1, y2, y3⟩ := hv.ky h
        exact ⟨y, by show (closeN (addN ns1 k ns.length (fr, e)) k (e + 1))[ns.length]? = _; rw [hmono _ (Nat.le_refl _) (List.getElem?_eq_some_iff.1 y1).1]; exact y1, y2, y3⟩
      · rw [closeN_len, addN_len, hln1]
        simp only [List.map_cons, List.map_nil, Vl.sizes]
        omega
      · rw [closeN_at hi, addN_at hi]
        exact hv.at_ i hi2
  | y :: r, x, a, hk, hat, ha => by
    have ef : ((y :: r).flatMap fun y => 44 :: (ln ++ kt y)) ++ (ln0 ++ [if ob = true then (125 : UInt8) else 93]) = 44 :: (ln ++ (kt y ++ ((r.flatMap fun y => 44 :: (ln ++ kt y)) ++ (ln0 ++ [if ob = true then 125 else 93])))) := by
      simp only [List.flatMap_cons, List.cons_append, List.append_assoc]
    rw [ef] at hat ⊢
    have h1 := hat.skip
    have hln := hat.take
    have hle1 := hln.le ha
    have h2 := h1.skip
    have hle2 := h1.take.le hle1
    obtain ⟨h4, h5, h6⟩ := h2.cons
    obtain ⟨toks, hT⟩ := hk x (by simp) _ h1.take hle1 (.inr (by rw [h5]; exact ⟨rfl, rfl⟩))
    generalize hE : a + ln.length + (kt x).length = e at *
    have ho : oneM T e = (6, e + 1, 0) := by unfold oneM; rw [h5]; rfl
    obtain ⟨toks2, hL⟩ := rd_loop_ok hb hb0 r y (e + 1) (fun q hq' => hk q (List.mem_cons_of_mem _ hq')) h6 (by omega)
    have hj6 : (6 : Nat) ≠ jendM ob := by cases ob <;> decide
    generalize hX : (ln ++ (kt y ++ ((r.flatMap fun y => 44 :: (ln ++ kt y)) ++ (ln0 ++ [if ob = true then (125 : UInt8) else 93])))) = X at *
    refine ⟨toks ++ (6, e, e + 1) :: toks2, fun m hm => ?_, ?_, ?_, ?_⟩
    · simp only [List.length_append, List.length_cons] at hm
      rw [show a + (ln.length + ((kt x).length + (X.length + 1))) = e + 1 + X.length by omega] at hm
      have n1 := NT_at h4 ho (by decide) (hL.nt _ hm)
      rw [← hE] at n1
      have n3 := hT.nt _ n1
      have n4 := NT_blank hln hb ha n3
      rw [hE] at n4
      simpa using n4
    · obtain ⟨t, q, e1, e2⟩ := hT.hd
      exact ⟨t, q ++ (6, e, e + 1) :: toks2, by rw [e1]; rfl, e2⟩
    · have := hL.ln
      obtain ⟨t, q, e1, _⟩ := hT.hd
      rw [e1]
      simp only [List.length_append, List.length_cons] at this ⊢
      omega
    · intro k f had fr ns R x0 hf hx0 hfr hnd hsz
      have hsz' : ns.length + x.2.size + Vl.sizes ((y :: r).map (·.2)) ≤ 4096 := by
        rw [List.map_cons, Vl.sizes] at hsz
        omega
      obtain ⟨g, rfl⟩ : ∃ g, f = g + 1 := ⟨f - 1, by simp only [List.length_cons] at hf; omega⟩
      obtain ⟨ns1, e1, hv⟩ := hT.go had ns ((6, e, e + 1) :: (toks2 ++ R)) (fun h => hfr h x (by simp)) (by omega)
      have hkl := (List.getElem?_eq_some_iff.1 hx0).1
      have hk1 : ns1[k]? = some x0 := by rw [hv.at_ k hkl]; exact hx0
      have hln1 := hv.ln
      obtain ⟨ns2, e2, hv2⟩ := hL.go k g (if ob = true then had ++ [x.1] else had) (e + 1) (addN ns1 k ns.length (fr, e)) R _ (by simp only [List.length_cons] at hf ⊢; omega) (addN_self hk1) (fun h q hq' => by
        rw [if_pos h]
        have h7 := hfr h q (List.mem_cons_of_mem _ hq')
        have h8 := hnd h
        rw [List.map_cons, List.nodup_cons] at h8
        intro h9
        rcases List.mem_append.1 h9 with h10 | h10
        · exact h7 h10
        · rw [List.mem_singleton] at h10
          exact h8.1 (h10 ▸ List.mem_map_of_mem hq')) (fun h => by
        have h8 := hnd h
        rw [List.map_cons, List.nodup_cons] at h8
        exact h8.2) (by rw [addN_len]; omega)
      have hmono : ∀ j, ns.length ≤ j → j < ns1.length → ns2[j]? = ns1[j]? := fun j h1 h2 => by
        rw [hv2.at_ j (by omega) (by rw [addN_len]; exact h2), addN_at (by omega)]
      obtain ⟨z, idx, z1, z2, z3, z4, z5, z6, z7⟩ := hv2.own
      refine ⟨ns2, ?_, ⟨⟨z, ns.length :: idx, z1, z2, z3, z4, by rw [z5]; simp, by simp [z6], fun i hi => ?_⟩, ?_, fun i hi hi2 => ?_⟩⟩
      · rw [List.append_assoc, List.cons_append]
        unfold loopM
        rw [e1]
        simp only
        rw [@takeM_yes T.size 6 (jendM ob) (6, e, e + 1) (toks2 ++ R) (.inl rfl)]
        simp only
        rw [if_neg hj6]
        exact e2
      · cases i with
        | zero =>
          refine ⟨hkl, hv.rv.mono hmono, fun h => ?_⟩
          obtain ⟨y', y1, y2, y3⟩ := hv.ky h
          exact ⟨y', by show ns2[ns.length]? = _; rw [hmono _ (Nat.le_refl _) (List.getElem?_eq_some_iff.1 y1).1]; exact y1, y2, y3⟩
        | succ i => exact z7 i (by simpa using hi)
      · rw [hv2.ln, addN_len, hln1]
        simp only [List.map_cons, Vl.sizes]
        omega
      · rw [hv2.at_ i hi (by rw [addN_len]; omega), addN_at hi]
        exact hv.at_ i hi2
end
theorem sizes_map : ∀ l : List Vl, Vl.sizes l = (l.map Vl.size).sum
  | [] => rfl
  | v :: l => by simp only [Vl.sizes, List.map_cons, List.sum_cons, sizes_map l]
theorem zip_texts (g : Bs → Bs → Bs) (f : Vl → Bs) : ∀ (ks : List Bs) (is : List Vl), List.zipWith g ks (is.map f) = (ks.zip is).map fun q => g q.1 (f q.2)
  | [], is => by simp
  | k :: ks, [] => by simp
  | k :: ks, x :: is => by
    simp only [List.map_cons, List.zipWith_cons_cons, List.zip_cons_cons, zip_texts g f ks is]
theorem comma_texts (ln ln0 : Bs) (kt : Bs × Vl → Bs) (c : UInt8) (x : Bs × Vl) (r : List (Bs × Vl)) : commaB ln ((x :: r).map kt) ++ ln0 ++ [c] = ln ++ (kt x ++ ((r.flatMap fun y => 44 :: (ln ++ kt y)) ++ (ln0 ++ [c]))) := by
  simp only [List.map_cons, commaB, List.flatMap_map, List.append_assoc]
theorem lnB_blank (ls : Bool) (n lev : Nat) : ∀ c ∈ lnB ls n lev, isBlank c.toNat = true := by
  intro c hc
  unfold lnB at hc
  split at hc
  · rcases List.mem_cons.1 hc with rfl | hc
    · rfl
    · obtain rfl := (List.mem_replicate.1 hc).2
      rfl
  · cases hc
theorem rd_list_ok {T : ByteArray} {d : Nat} (ob : Bool) {ls : Bool} {n lev a : Nat} {kt : Bs × Vl → Bs} {its : List (Bs × Vl)} (hk : ∀ q ∈ its, ∀ b, At T b (kt q) → b ≤ T.size → Term T (b + (kt q).length) → ∃ toks, KidT T d ob b (kt q) q toks)
    (hnd : ob = true → (its.map (·.1)).Nodup) (hat : At T a (listB ls n lev (if ob = true then 123 else 91) (if ob = true then 125 else 93) (its.map kt))) (_ha : a ≤ T.size)
    {v : Vl} (hsz : v.size = 1 + Vl.sizes (its.map (·.2)))
    (hfin : ∀ (ns' : List JN) (k : Nat) (x : JN), ns'[k]? = some x → x.kd = (if ob = true then 6 else 5) → x.kids.length = its.length → (∀ i (hi : i < its.length), k < x.kids.getD i 0 ∧ Rv T ns' d (x.kids.getD i 0) its[i].2 its[i].2.size ∧ (ob = true → ∃ y, ns'[x.kids.getD i 0]? = some y ∧ StrOk T y.ka y.kb ∧ its[i].1 = keyTx T y.ka y.kb)) → Rv T ns' (d + 1) k v v.size) :
    ∃ toks, ValT T (d + 1) a (listB ls n lev (if ob = true then 123 else 91) (if ob = true then 125 else 93) (its.map kt)) v toks := by
  obtain ⟨h1, h2, h3⟩ := At.cons (x := if ob = true then 123 else 91) hat
  have ho : oneM T a = ((if ob = true then 2 else 4), a + 1, 0) := by
    unfold oneM
    simp only
    rw [h2]
    cases ob <;> rfl
  have hkd : kindM (if ob = true then 2 else 4) = (if ob = true then 6 else 5) := by cases ob <;> rfl
  have hk1 : (if ob = true then 2 else 4) ≠ 1 := by cases ob <;> decide
  have val : ∀ (toks : List Tok) key ns r R, ns.length + v.size ≤ 4096 → listM (valueM T.size (keyTx T) d) ob T.size (keyTx T) ns.length (toks ++ r) (ns ++ [leafN ((if ob = true then 2 else 4), a, a + 1) key]) = R → valueM T.size (keyTx T) (d + 1) (((if ob = true then 2 else 4), a, a + 1) :: (toks ++ r)) key ns = R := fun toks key ns r R hs h => by
    unfold valueM
    rw [hkd, if_neg (by cases ob <;> simp), if_neg (by omega)]
    cases ob with
    | false => rw [if_pos (by simp)]; exact h
    | true => rw [if_neg (by simp), if_pos (by simp)]; exact h
  have hnew : ∀ (ns : List JN) key, (ns ++ [leafN ((if ob = true then 2 else 4), a, a + 1) key])[ns.length]? = some (leafN ((if ob = true then 2 else 4), a, a + 1) key) := fun ns key => by simp
  cases its with
  | nil =>
    obtain ⟨h4, h5, _⟩ := At.cons (x := if ob = true then 125 else 93) (l := []) h3
    have ho2 := one_end ob h5
    have hj2 : jendM ob ≠ 1 := by cases ob <;> decide
    refine ⟨[((if ob = true then 2 else 4), a, a + 1), (jendM ob, a + 1, a + 1 + 1)], fun m hm => ?_, ⟨_, _, rfl, by rw [hkd]; cases ob <;> decide⟩, fun key ns r hs => ?_⟩
    · exact NT_at h1 ho hk1 (NT_at h4 ho2 hj2 hm)
    · have e := closeN_self (b := a + 1 + 1) (hnew ns key)
      have hs1 : v.size = 1 := by rw [hsz]; rfl
      refine ⟨closeN (ns ++ [leafN ((if ob = true then 2 else 4), a, a + 1) key]) ns.length (a + 1 + 1), ?_, ?_, by rw [closeN_len]; simp [hs1], ⟨_, e, rfl, rfl⟩⟩
      · refine val [(jendM ob, a + 1, a + 1 + 1)] key ns r _ hs ?_
        unfold listM
        rw [if_pos (by rfl)]
        rfl
      · exact hfin _ _ _ e hkd rfl (fun i hi => absurd hi (Nat.not_lt_zero _))
  | cons x r =>
    have et : listB ls n lev (if ob = true then 123 else 91) (if ob = true then 125 else 93) ((x :: r).map kt) = (if ob = true then 123 else 91) :: (lnB ls n (lev + 1) ++ (kt x ++ ((r.flatMap fun y => 44 :: (lnB ls n (lev + 1) ++ kt y)) ++ (lnB ls n lev ++ [if ob = true then 125 else 93])))) := by
      have hne : ¬ (x :: r).map kt = [] := by simp
      unfold listB
      rw [if_neg hne, comma_texts]
    rw [et] at hat ⊢
    obtain ⟨_, _, h3⟩ := hat.cons
    obtain ⟨toks, hL⟩ := rd_loop_ok (lnB_blank ls n (lev + 1)) (lnB_blank ls n lev) r x (a + 1) hk h3 (by omega)
    generalize hX : (lnB ls n (lev + 1) ++ (kt x ++ ((r.flatMap fun y => 44 :: (lnB ls n (lev + 1) ++ kt y)) ++ (lnB ls n lev ++ [if ob = true then (125 : UInt8) else 93])))) = X at *
    refine ⟨((if ob = true then 2 else 4), a, a + 1) :: toks, fun m hm => ?_, ⟨_, _, rfl, by rw [hkd]; cases ob <;> decide⟩, fun key ns R hs => ?_⟩
    · rw [List.length_cons, show a + (X.length + 1) = a + 1 + X.length by omega] at hm
      exact NT_at h1 ho hk1 (hL.nt _ hm)
    · obtain ⟨t, q, e1, e2⟩ := hL.hd
      have hln := hL.ln
      obtain ⟨ns', e3, hv⟩ := hL.go ns.length ((toks ++ R).length + 1) [] (toN (ns ++ [leafN ((if ob = true then 2 else 4), a, a + 1) key]) ns.length) (ns ++ [leafN ((if ob = true then 2 else 4), a, a + 1) key]) R _ (by rw [List.length_append]; omega) (hnew ns key) (fun _ q _ => by simp) hnd (by rw [List.length_append, List.length_singleton]; omega)
      obtain ⟨z, idx, z1, z2, z3, z4, z5, z6, z7⟩ := hv.own
      have z5' : z.kids = idx := z5
      refine ⟨ns', ?_, ?_, by rw [hv.ln, List.length_append, List.length_singleton]; omega, ⟨z, z1, z3, z4⟩⟩
      · refine val toks key ns R _ hs ?_
        unfold listM
        rw [if_neg (by
          rw [e1]
          intro h
          exact e2 (Option.some.inj h))]
        exact e3
      · exact hfin _ _ _ z1 (z2.trans hkd) (by rw [z5']; exact z6) (by rw [z5']; exact z7)
theorem rd_leaf_ok {T : ByteArray} {d a k : Nat} {l : Bs} {v : Vl} (h0 : 0 < l.length) (ho : oneM T a = (k, a + l.length, 0)) (hle : a + l.length ≤ T.size) (hk : kindM k = 1 ∨ kindM k = 2 ∨ kindM k = 3 ∨ kindM k = 4) (hv : ∀ key, leafV T (leafN (k, a, a + l.length) key) = v) (hs : v.size = 1) : ∃ toks, ValT T (d + 1) a l v toks := by
  have hk1 : k ≠ 1 := fun h => by rw [h] at hk; revert hk; decide
  refine ⟨[(k, a, a + l.length)], fun m hm => NT_at (by omega) ho hk1 hm, ⟨_, _, rfl, by show kindM k ≠ 0; omega⟩, fun key ns r hn => ⟨ns ++ [leafN (k, a, a + l.length) key], ?_, ?_, by simp [hs], ⟨leafN (k, a, a + l.length) key, by simp, rfl, rfl⟩⟩⟩
  · rw [List.singleton_append]
    unfold valueM
    rw [if_neg (by show ¬ kindM k = 0; omega), if_neg (by omega), if_neg (by show ¬ kindM k = 5; omega), if_neg (by show ¬ kindM k = 6; omega)]
  · rw [← hv key, show (leafV T (leafN (k, a, a + l.length) key)).size = 1 by rw [hv]; exact hs]
    exact .leaf (by simp) ⟨by show a < a + l.length; omega, hle, k, ho, rfl, hk⟩ rfl
theorem qt_text {t : Bs} : (quoteM (st t)).1 = qtB t := rfl
end Go.Proofs.YtkafjblfjdpdaaaGreatDoor

