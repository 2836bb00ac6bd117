/-
  PLAIN MATHEMATICS: what stands in one line of YAML: bare texts, what they are, what is read, what is written; what is written is read.
-/
import Derived.Test.YtkafjblfjdpdaaaGreatDoorYsB
import Derived.Test.YtkafjblfjdpdaaaGreatDoorYlX
namespace Go.Proofs.YtkafjblfjdpdaaaGreatDoor
open Go.RowKit
def plainL (l : Bs) : Bool := l.all fun c => decide (32 ≤ c.toNat) && decide (c ≠ 127)
def midL : UInt8 → Bs → Bool
  | _, [] => true
  | p, c :: r => (!(p == 58 && c == 32) && !(p == 32 && c == 35)) && midL c r
def signsL : Bs := [63, 58, 44, 91, 93, 123, 125, 35, 38, 42, 33, 124, 62, 39, 34, 37, 64, 96, 32]
def headL : Bs → Bool
  | [] => false
  | c :: r => !signsL.contains c && !(c == 45 && (decide (r = []) || r.head? == some 32))
def bareL (l : Bs) : Bool := (valid (st l)).2 && (headL l && (decide (lastB 0 l ≠ 32 ∧ lastB 0 l ≠ 58) && (plainL l && midL 0 l)))
def resolveL (l : Bs) : Vl :=
  if l = [] ∨ l = [110, 117, 108, 108] ∨ l = [126] then .mk 1 [] [] []
  else if l = [116, 114, 117, 101] ∨ l = [102, 97, 108, 115, 101] then .mk 2 l [] []
  else if (parseM l).2 = 0 then .mk 3 (textM (parseM l).1) [] []
  else .mk 4 l [] []
def quotL (l : Bs) : Bs × Int :=
  if l.head? = some 34 then ((unquoteM (st l)).1, (unquoteM (st l)).2.2)
  else if (sglM (st l) 0).2.2 = 0 ∧ (sglM (st l) 0).2.1 = l.length then ((sglM (st l) 0).1, 0) else ([], 2)
def RdOf (l : Bs) (v : Vl) (er : Int) : Prop :=
  match l with
  | [] => v = resolveL [] ∧ er = 0
  | c :: _ =>
    if c = 34 ∨ c = 39 then er = (quotL l).2 ∧ v = (if (quotL l).2 = 0 then .mk 4 (quotL l).1 [] [] else zV)
    else if c = 91 ∨ c = 123 then (match jparseM (st l) with | .inl q => v = zV ∧ er = q.2 | .inr ns => er = 0 ∧ Rv (st l) ns 32 0 v ns.length)
    else if bareL l = true then v = resolveL l ∧ er = 0
    else v = zV ∧ er = 2
def inQ (s d : Bs) : Bs := if plainL s = true then (quotedM (st s)).1 else safeL 0 d
def writeL (v : Vl) : Bs × Int :=
  if rightM v = true then (if v.k = 4 then (if bareL v.t = true ∧ (resolveL v.t).k = 4 then v.t else inQ v.t (prB false 0 0 v)) else safeL 0 (prB false 0 0 v), 0) else ([], 1)
def keyL (l : Bs) : Bs × Int :=
  match l with
  | [] => ([], 2)
  | c :: _ => if c = 34 ∨ c = 39 then quotL l else if bareL l = true then (l, 0) else ([], 2)
def writeKeyL (s : Bs) : Bs × Int := if (valid (st s)).2 = true then (if bareL s = true then s else inQ s (qtB s), 0) else ([], 2)
theorem bare_parts {l : Bs} (h : bareL l = true) : (valid (st l)).2 = true ∧ headL l = true ∧ lastB 0 l ≠ 32 ∧ lastB 0 l ≠ 58 ∧ plainL l = true ∧ midL 0 l = true := by
  unfold bareL at h
  simp only [Bool.and_eq_true, decide_eq_true_eq] at h
  exact ⟨h.1, h.2.1, h.2.2.1.1, h.2.2.1.2, h.2.2.2.1, h.2.2.2.2⟩
theorem bare_first {l : Bs} (h : bareL l = true) : ∃ c r, l = c :: r ∧ c ≠ 34 ∧ c ≠ 39 ∧ c ≠ 91 ∧ c ≠ 123 := by
  have h1 := (bare_parts h).2.1
  cases l with
  | nil => cases h1
  | cons c r =>
    refine ⟨c, r, rfl, ?_⟩
    unfold headL at h1
    simp only [Bool.and_eq_true, Bool.not_eq_true'] at h1
    have h2 := h1.1
    refine ⟨?_, ?_, ?_, ?_⟩
    all_goals (rintro rfl; exact absurd h2 (by decide))
theorem read_bare {l : Bs} (h : bareL l = true) : RdOf l (resolveL l) 0 := by
  obtain ⟨c, r, rfl, h1, h2, h3, h4⟩ := bare_first h
  unfold RdOf
  simp only
  rw [if_neg (by simp [h1, h2]), if_neg (by simp [h3, h4]), if_pos h]
  exact ⟨trivial, trivial⟩
theorem key_bare {l : Bs} (h : bareL l = true) : keyL l = (l, 0) := by
  obtain ⟨c, r, rfl, h1, h2, h3, h4⟩ := bare_first h
  unfold keyL
  simp only
  rw [if_neg (by simp [h1, h2]), if_pos h]
theorem encU_low {c : UInt8} (h : c.toNat < 128) : encB c.toNat = [c] := by
  unfold encB
  rw [Lib.encodeRuneZ_one (by omega) (by omega)]
  simp
theorem ascii_valid {l : Bs} (h : ∀ c ∈ l, c.toNat < 128) : (valid (st l)).2 = true := by
  have e : encAll (l.map UInt8.toNat) = l := by
    unfold encAll
    induction l with
    | nil => rfl
    | cons c l ih =>
      rw [List.map_cons, List.flatMap_cons, encU_low (h c (by simp)), ih (fun x hx => h x (List.mem_cons_of_mem _ hx))]
      rfl
  rw [← e]
  refine valid_enc _ (fun r hr => ?_)
  obtain ⟨c, hc, rfl⟩ := List.mem_map.1 hr
  have := h c hc
  omega
theorem num_bytes {c : UInt8} (h : numD c = true) : 32 < c.toNat ∧ c.toNat < 128 ∧ c ≠ 127 ∧ c ≠ 58 ∧ c ≠ 35 := by
  have key : ∀ n : Nat, n < 256 → numD (UInt8.ofNat n) = true → 32 < n ∧ n < 128 ∧ UInt8.ofNat n ≠ 127 ∧ UInt8.ofNat n ≠ 58 ∧ UInt8.ofNat n ≠ 35 := by decide +kernel
  have := key c.toNat (UInt8.toNat_lt c)
  rw [UInt8.ofNat_toNat] at this
  exact this h
theorem mid_num : ∀ {l : Bs} (p : UInt8), (∀ c ∈ l, numD c = true) → midL p l = true
  | [], _, _ => rfl
  | c :: l, p, h => by
    have h1 := num_bytes (h c (by simp))
    unfold midL
    rw [mid_num c (fun x hx => h x (List.mem_cons_of_mem _ hx))]
    have e1 : (c == 32) = false := beq_eq_false_iff_ne.2 (fun e => by rw [e] at h1; exact absurd h1.1 (by decide))
    have e2 : (c == 35) = false := beq_eq_false_iff_ne.2 h1.2.2.2.2
    rw [e1, e2]
    simp
theorem last_in : ∀ {l : Bs} (p : UInt8), l ≠ [] → lastB p l ∈ l
  | [], _, h => absurd rfl h
  | [c], _, _ => by simp [lastB]
  | c :: d :: l, p, _ => by
    have := last_in (l := d :: l) c (by simp)
    exact List.mem_cons_of_mem _ this
theorem bare_num {t : Bs} (h : decM t = true) : bareL t = true := by
  obtain ⟨ha, c, r, hl, hc⟩ := decM_num h
  have hb : ∀ x ∈ t, numD x = true := fun x hx => List.all_eq_true.1 ha x hx
  have hne : t ≠ [] := by rw [hl]; simp
  have hlast := num_bytes (hb _ (last_in 0 hne))
  unfold bareL
  rw [ascii_valid (fun x hx => (num_bytes (hb x hx)).2.1), mid_num 0 hb]
  have e1 : plainL t = true := List.all_eq_true.2 (fun x hx => by
    have := num_bytes (hb x hx)
    simp only [Bool.and_eq_true, decide_eq_true_eq]
    exact ⟨by omega, this.2.2.1⟩)
  have e2 : decide (lastB 0 t ≠ 32 ∧ lastB 0 t ≠ 58) = true := decide_eq_true ⟨fun e => by rw [e] at hlast; exact absurd hlast.1 (by decide), hlast.2.2.2.1⟩
  have e3 : headL t = true := by
    rw [hl]
    show (!signsL.contains c && !(c == 45 && (decide (r = []) || r.head? == some 32))) = true
    have hcn : signsL.contains c = false := by
      rcases hc with rfl | hc
      · decide
      · have key : ∀ n : Nat, n < 256 → isDig (UInt8.ofNat n) = true → signsL.contains (UInt8.ofNat n) = false := by decide +kernel
        have := key c.toNat (UInt8.toNat_lt c)
        rw [UInt8.ofNat_toNat] at this
        exact this hc
    rw [hcn]
    have h45 : (c == 45 && (decide (r = []) || r.head? == some 32)) = false := by
      rw [Bool.and_eq_false_iff]
      by_cases hm : c = 45
      · right
        rw [Bool.or_eq_false_iff]
        constructor
        · refine decide_eq_false (fun hr => ?_)
          rw [hm, hr] at hl
          rw [hl] at h
          exact absurd h (by decide +kernel)
        · cases r with
          | nil => rfl
          | cons d r =>
            have hd := num_bytes (hb d (by rw [hl]; simp))
            refine beq_eq_false_iff_ne.2 (fun e => ?_)
            have e : d = 32 := Option.some.inj e
            rw [e] at hd
            exact absurd hd.1 (by decide)
      · exact .inl (beq_eq_false_iff_ne.2 hm)
    rw [h45]
    rfl
  rw [e1, e2, e3]
  rfl
theorem resolve_num {t : Bs} (h : decM t = true) : resolveL t = .mk 3 t [] [] := by
  have h0 := h
  unfold decM at h
  simp only [Bool.and_eq_true, decide_eq_true_eq] at h
  unfold resolveL
  rw [if_neg, if_neg, if_pos h.1, h.2]
  · rintro (rfl | rfl)
    · exact absurd h0 (by decide +kernel)
    · exact absurd h0 (by decide +kernel)
  · rintro (rfl | rfl | rfl)
    · exact absurd h0 (by decide +kernel)
    · exact absurd h0 (by decide +kernel)
    · exact absurd h0 (by decide +kernel)
theorem resolve_str {t : Bs} (h : (resolveL t).k = 4) : resolveL t = .mk 4 t [] [] := by
  unfold resolveL at h ⊢
  split
  · rename_i h1
    rw [if_pos h1] at h
    exact absurd h (by decide)
  · rename_i h1
    rw [if_neg h1] at h
    split
    · rename_i h2
      rw [if_pos h2] at h
      exact absurd h (show ¬ (2 : Int) = 4 by decide)
    · rename_i h2
      rw [if_neg h2] at h
      split
      · rename_i h3
        rw [if_pos h3] at h
        exact absurd h (show ¬ (3 : Int) = 4 by decide)
      · rfl
theorem clean_of (s : ByteArray) : ∀ f p, (vld s f p).2 = true → (∀ i, p ≤ i → i < s.size → 32 ≤ byt s i) → clnM s false f p = s.size
  | 0, p, _, _ => rfl
  | f + 1, p, hv, hc => by
    by_cases hp : p < s.size
    · have hnb : ¬ bad s p := fun h => by
        rw [vld_bad s f p hp h] at hv
        cases hv
      rw [vld_step s f p hp hnb] at hv
      rw [clean_round s f p hp hnb, if_neg (by have := hc p (Nat.le_refl _) hp; omega)]
      exact clean_of s f (p + wd s p) hv (fun i h1 h2 => hc i (by omega) h2)
    · rw [clnM_end s false (f + 1) p hp]
theorem plain_at {l : Bs} (h : plainL l = true) (i : Nat) (hi : i < (st l).size) : 32 ≤ byt (st l) i ∧ byt (st l) i ≠ 127 := by
  have hl : i < (st l).data.toList.length := by rw [Array.length_toList]; exact hi
  rw [← bytT (st l) i hl]
  have h0 : plainL (st l).data.toList = true := by rw [st_list]; exact h
  have h1 := List.all_eq_true.1 h0 ((st l).data.toList[i]'hl) (List.getElem_mem hl)
  simp only [Bool.and_eq_true, decide_eq_true_eq] at h1
  exact ⟨h1.1, fun e => h1.2 (UInt8.toNat_inj.1 e)⟩
theorem quoted_plain {t : Bs} (hv : (valid (st t)).2 = true) (h : plainL t = true) : (quotedM (st t)) = (39 :: dblB t ++ [39], 0) := by
  have hc : cleanM (st t) false = (st t).size := clean_of (st t) _ 0 hv (fun i _ hi => (plain_at h i hi).1)
  unfold quotedM
  rw [if_pos hc, st_list]
theorem single_read {t : Bs} (h : cleanM (st t) false = (st t).size) : quotL (39 :: dblB t ++ [39]) = (t, 0) := by
  have e := sgl_quoted (st t) (st []) (st []) h (fun l hl => by rw [st_list] at hl; cases hl)
  rw [st_list] at e
  have e2 : st [] ++ st (39 :: dblB t ++ [39]) ++ st [] = st (39 :: dblB t ++ [39]) := by
    rw [cat_bytes, cat_bytes, List.nil_append, List.append_nil]
  rw [e2] at e
  have e3 : ((st []).size : Int) = 0 := rfl
  rw [e3] at e
  unfold quotL
  rw [if_neg (by simp), e]
  have e4 : (st []).size = 0 := rfl
  simp only [e4, Nat.zero_add]
  rw [if_pos ⟨trivial, trivial⟩]
theorem double_read {t : Bs} (h : (valid (st t)).2 = true) : quotL (qtS t) = (t, 0) := by
  unfold quotL
  rw [if_pos (by rw [qtS_yes h]; rfl), unquote_safe h]
theorem inQ_read {t : Bs} (h : (valid (st t)).2 = true) : ∃ c r, inQ t (qtB t) = c :: r ∧ (c = 34 ∨ c = 39) ∧ quotL (inQ t (qtB t)) = (t, 0) := by
  unfold inQ
  by_cases hp : plainL t = true
  · rw [if_pos hp, quoted_plain h hp]
    exact ⟨39, dblB t ++ [39], rfl, .inr rfl, single_read (clean_of (st t) _ 0 h (fun i _ hi => (plain_at hp i hi).1))⟩
  · rw [if_neg hp]
    exact ⟨34, _, (qtS_yes h), .inl rfl, double_read h⟩
theorem key_write {s : Bs} (h : (valid (st s)).2 = true) : (writeKeyL s).2 = 0 ∧ keyL (writeKeyL s).1 = (s, 0) := by
  unfold writeKeyL
  rw [if_pos h]
  refine ⟨rfl, ?_⟩
  simp only
  by_cases hb : bareL s = true
  · rw [if_pos hb]
    exact key_bare hb
  · rw [if_neg hb]
    obtain ⟨c, r, e1, e2, e3⟩ := inQ_read h
    rw [e1] at e3 ⊢
    unfold keyL
    simp only
    rw [if_pos e2]
    exact e3
theorem write_str {t : Bs} (_h : (valid (st t)).2 = true) : prB false 0 0 (.mk 4 t [] []) = qtB t := by
  rw [prB_mk, if_neg (by decide), if_pos rfl]
theorem write_read {v : Vl} (h : rightM v = true) (hl : (writeL v).1.length ≤ 65536) : (writeL v).2 = 0 ∧ RdOf (writeL v).1 v 0 := by
  have hr : Rgt v := by
    have h' := h
    unfold rightM at h'
    simp only [Bool.and_eq_true, decide_eq_true_eq] at h'
    exact h'.2.2
  unfold writeL at hl ⊢
  rw [if_pos h] at hl ⊢
  refine ⟨rfl, ?_⟩
  simp only at hl ⊢
  by_cases h4 : v.k = 4
  · rw [if_pos h4]
    obtain ⟨k, t, ks, is⟩ := v
    have h4 : k = 4 := h4
    subst h4
    obtain ⟨hn, _⟩ := hr.here
    rw [nodeM_mk, if_neg (by decide), if_neg (by decide)] at hn
    simp only [Bool.and_eq_true, decide_eq_true_eq] at hn
    obtain ⟨⟨rfl, rfl⟩, hsc⟩ := hn
    have hv : (valid (st t)).2 = true := hsc
    show RdOf (if bareL t = true ∧ (resolveL t).k = 4 then t else inQ t (prB false 0 0 (.mk 4 t [] []))) (.mk 4 t [] []) 0
    by_cases hb : bareL t = true ∧ (resolveL t).k = 4
    · rw [if_pos hb]
      have := read_bare hb.1
      rwa [resolve_str hb.2] at this
    · rw [if_neg hb, write_str hv]
      obtain ⟨c, r, e1, e2, e3⟩ := inQ_read hv
      rw [e1] at e3 ⊢
      unfold RdOf
      simp only
      rw [if_pos e2, e3]
      exact ⟨rfl, rfl⟩
  · rw [if_neg h4] at hl ⊢
    have hread := safe_read h hl
    rw [safe_prB 0 v hr 0 0] at hread ⊢
    obtain ⟨k, t, ks, is⟩ := v
    have hk4 : k ≠ 4 := h4
    obtain ⟨hn, h7⟩ := hr.here
    rw [nodeM_mk] at hn
    by_cases h5 : k = 5
    · have e : ∃ r, prQ qtS (.mk k t ks is) = 91 :: r := by rw [prQ_mk, if_neg (by omega), if_neg hk4, if_pos h5]; exact ⟨_, rfl⟩
      obtain ⟨r, e⟩ := e
      rw [e] at hread ⊢
      obtain ⟨ns, p1, p2⟩ := hread
      unfold RdOf
      simp only
      rw [if_neg (by decide), if_pos (by decide), p1]
      exact ⟨trivial, p2⟩
    by_cases h6 : k = 6
    · have e : ∃ r, prQ qtS (.mk k t ks is) = 123 :: r := by rw [prQ_mk, if_neg (by omega), if_neg hk4, if_neg h5, if_pos h6]; exact ⟨_, rfl⟩
      obtain ⟨r, e⟩ := e
      rw [e] at hread ⊢
      obtain ⟨ns, p1, p2⟩ := hread
      unfold RdOf
      simp only
      rw [if_neg (by decide), if_pos (by decide), p1]
      exact ⟨trivial, p2⟩
    rw [if_neg h5, if_neg h6] at hn
    simp only [Bool.and_eq_true, decide_eq_true_eq] at hn
    obtain ⟨⟨rfl, rfl⟩, hsc⟩ := hn
    unfold scalarM at hsc
    rw [prQ_mk, if_neg hk4, if_neg h5, if_neg h6]
    by_cases h1 : k = 1
    · subst h1
      rw [if_pos rfl] at hsc ⊢
      have ht : t = [] := by simpa using hsc
      subst ht
      exact read_bare (l := [110, 117, 108, 108]) (by decide +kernel)
    rw [if_neg h1] at hsc ⊢
    by_cases h2 : k = 2
    · subst h2
      rw [if_pos rfl] at hsc
      simp only [Bool.or_eq_true, decide_eq_true_eq] at hsc
      rcases hsc with rfl | rfl
      · exact read_bare (l := [116, 114, 117, 101]) (by decide +kernel)
      · exact read_bare (l := [102, 97, 108, 115, 101]) (by decide +kernel)
    rw [if_neg h2] at hsc
    by_cases h3 : k = 3
    · subst h3
      rw [if_pos rfl] at hsc
      have := read_bare (bare_num hsc)
      rwa [resolve_num hsc] at this
    rw [if_neg h3, if_neg hk4, if_neg h7] at hsc
    cases hsc
end Go.Proofs.YtkafjblfjdpdaaaGreatDoor

