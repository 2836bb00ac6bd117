/-
  PLAIN MATHEMATICS: a text made safe for a line: no 127, no # behind a blank; a string so written is read.
-/
import Derived.Test.YtkafjblfjdpdaaaGreatDoorRdW
namespace Go.Proofs.YtkafjblfjdpdaaaGreatDoor
open Go.RowKit
def safeL : UInt8 → Bs → Bs
  | _, [] => []
  | p, c :: r => (if c = 127 then [92, 117, 48, 48, 55, 102] else if c = 35 ∧ p = 32 then [92, 117, 48, 48, 50, 51] else [c]) ++ safeL c r
def lastB : UInt8 → Bs → UInt8
  | p, [] => p
  | _, c :: r => lastB c r
theorem safe_app : ∀ (a b : Bs) (p : UInt8), safeL p (a ++ b) = safeL p a ++ safeL (lastB p a) b
  | [], _, _ => rfl
  | c :: a, b, p => by
    rw [List.cons_append, safeL, safe_app a b c, safeL, List.append_assoc]
    rfl
theorem safe_no : ∀ {a : Bs} (p : UInt8), (∀ c ∈ a, c ≠ 127 ∧ c ≠ 35) → safeL p a = a
  | [], _, _ => rfl
  | c :: a, p, h => by
    have h1 := h c (by simp)
    rw [safeL, if_neg h1.1, if_neg (fun x => h1.2 x.1), safe_no c (fun x hx => h x (List.mem_cons_of_mem _ hx))]
    rfl
theorem safe_any {a : Bs} (p q : UInt8) (h : ∀ r, a ≠ 35 :: r) : safeL p a = safeL q a := by
  cases a with
  | nil => rfl
  | cons c r =>
    have hc : c ≠ 35 := fun hc => h r (by rw [hc])
    rw [safeL, safeL, if_neg (fun x : c = 35 ∧ p = 32 => hc x.1), if_neg (fun x : c = 35 ∧ q = 32 => hc x.1)]
def Spells (P : Bs) (r : Nat) : Prop := P ≠ [] ∧ ∀ (t : ByteArray) (k : Nat), At t k P → byt t k ≠ 34 ∧ partM t k = some (r, P.length)
inductive SpellsAll : Bs → List Nat → Prop
  | nil : SpellsAll [] []
  | cons {P Q : Bs} {r : Nat} {rs : List Nat} : Spells P r → SpellsAll Q rs → SpellsAll (P ++ Q) (r :: rs)
theorem scan_spelt (t : ByteArray) {Q : Bs} {rs : List Nat} (h : SpellsAll Q rs) : ∀ (k g : Nat) (acc : List Nat), At t k (Q ++ [34]) → t.size ≤ k + g → scanGo t g k acc = (k + Q.length + 1, 0, acc ++ rs) := by
  induction h with
  | nil =>
    intro k g acc hat hg
    obtain ⟨hk, hb, _⟩ := At.cons (x := 34) (l := []) hat
    obtain ⟨g, rfl⟩ : ∃ i, g = i + 1 := ⟨g - 1, by omega⟩
    rw [scanGo, if_pos hk, if_pos (show byt t k = 34 from hb), List.append_nil]
    rfl
  | @cons P Q r rs hP _ ih =>
    intro k g acc hat hg
    rw [List.append_assoc] at hat
    obtain ⟨h34, hpart⟩ := hP.2 t k hat.take
    have hlen : 1 ≤ P.length := by
      have := List.length_pos_iff.2 hP.1
      omega
    have hkt : k < t.size := by
      cases hz : P with
      | nil => exact absurd hz hP.1
      | cons x l => rw [hz] at hat; exact hat.cons.1
    obtain ⟨g, rfl⟩ : ∃ i, g = i + 1 := ⟨g - 1, by omega⟩
    rw [scanGo, if_pos hkt, if_neg h34, hpart]
    simp only
    rw [ih _ g _ hat.skip (by omega), List.append_assoc, List.length_append]
    simp only [List.singleton_append, Prod.mk.injEq, and_true]
    omega
theorem spell_four {x y : UInt8} {c : Nat} (hx : hex4 48 48 x.toNat y.toNat = some c) (hc : c < 55296) : Spells [92, 117, 48, 48, x, y] c := by
  refine ⟨by simp, fun t k h => ?_⟩
  obtain ⟨k1, b1, h⟩ := h.cons
  obtain ⟨k2, b2, h⟩ := h.cons
  obtain ⟨k3, b3, h⟩ := h.cons
  obtain ⟨k4, b4, h⟩ := h.cons
  obtain ⟨k5, b5, h⟩ := h.cons
  obtain ⟨k6, b6, h⟩ := h.cons
  have b1' : byt t k = 92 := b1
  have b2' : byt t (k + 1) = 117 := b2
  have b3' : byt t (k + 2) = 48 := b3
  have b4' : byt t (k + 3) = 48 := b4
  have b5' : byt t (k + 4) = x.toNat := b5
  have b6' : byt t (k + 5) = y.toNat := b6
  refine ⟨by omega, ?_⟩
  have hu : uni t k = some c := by
    unfold uni
    rw [if_pos ⟨by omega, b1', b2'⟩, b3', b4', b5', b6', hx]
  have he : escU t k = some (c, 6) := by
    unfold escU
    rw [hu]
    simp only
    rw [if_neg (by omega), if_pos (by omega)]
  unfold partM escM
  rw [if_pos b1', if_neg (by omega), b2', he]
  rfl
theorem qb_no : ∀ c : Nat, c < 128 → c ≠ 127 → c ≠ 35 → ∀ x ∈ qb (UInt8.ofNat c), x ≠ 127 ∧ x ≠ 35 := by decide +kernel
theorem qb_127 : qb (UInt8.ofNat 127) = [127] := by decide +kernel
theorem qb_35 : qb (UInt8.ofNat 35) = [35] := by decide +kernel
theorem part_ne (s : ByteArray) (p : Nat) (hp : p < s.size) : partAt s p ≠ [] := by
  unfold partAt
  split
  · have : ∀ c : Nat, c < 128 → qb (UInt8.ofNat c) ≠ [] := by decide +kernel
    exact this _ (by assumption)
  · intro h
    have := runeAt_len s p hp
    have := wd_pos s p
    rw [h] at *
    simp at *
    omega
theorem part_safe (s : ByteArray) (p : Nat) (q : UInt8) (hp : p < s.size) (hb : ¬ bad s p) : Spells (safeL q (partAt s p)) (Utf8.decode s p).1 := by
  by_cases hlow : byt s p < 128
  · have hd : (Utf8.decode s p).1 = byt s p := by rw [dec_low s p hlow]
    have he : partAt s p = qb (UInt8.ofNat (byt s p)) := by unfold partAt; rw [if_pos hlow]
    by_cases h1 : byt s p = 127
    · rw [hd, he, h1, qb_127]
      exact spell_four (x := 55) (y := 102) (by decide) (by decide)
    · by_cases h2 : byt s p = 35 ∧ q = 32
      · rw [hd, he, h2.1, qb_35, h2.2]
        exact spell_four (x := 50) (y := 51) (by decide) (by decide)
      · have hs : safeL q (partAt s p) = partAt s p := by
          by_cases h3 : byt s p = 35
          · rw [he, h3, qb_35, safeL, if_neg (by decide), if_neg (fun h => h2 ⟨h3, h.2⟩)]
            rfl
          · rw [he]
            exact safe_no q (qb_no _ hlow h1 h3)
        rw [hs]
        exact ⟨part_ne s p hp, fun t k h => part_at s t p k hp hb h⟩
  · have hs : safeL q (partAt s p) = partAt s p := by
      refine safe_no q (fun c hc => ?_)
      unfold partAt at hc
      rw [if_neg hlow] at hc
      have h1 := runeAt_high s p hp (by omega) c hc
      constructor
      · intro h; rw [h] at h1; exact absurd h1 (by decide)
      · intro h; rw [h] at h1; exact absurd h1 (by decide)
    rw [hs]
    exact ⟨part_ne s p hp, fun t k h => part_at s t p k hp hb h⟩
theorem spell_safe (s : ByteArray) : ∀ (f p : Nat) (q : UInt8), (vld s f p).2 = true → p ≤ s.size → s.size ≤ p + f → ∃ rs, encAll rs = s.data.toList.drop p ∧ SpellsAll (safeL q (quoteB (s.data.toList.drop p))) rs := by
  intro f
  induction f with
  | zero =>
    intro p q _ hp hf
    have hnil : s.data.toList.drop p = [] := List.drop_eq_nil_of_le (by rw [Array.length_toList]; exact hf)
    rw [hnil]
    exact ⟨[], rfl, .nil⟩
  | succ f ih =>
    intro p q hv hp hf
    by_cases hps : p < s.size
    · have hnb : ¬ bad s p := fun h => by
        rw [vld_bad s f p hps h] at hv
        cases hv
      rw [vld_step s f p hps hnb] at hv
      have hwp := wd_pos s p
      have hwl := wd_le s p hps
      rw [quoteB_drop s p hps, safe_app]
      obtain ⟨rs, h1, h2⟩ := ih (p + wd s p) (lastB q (partAt s p)) hv hwl (by omega)
      refine ⟨(Utf8.decode s p).1 :: rs, ?_, .cons (part_safe s p q hps hnb) h2⟩
      show encB _ ++ encAll rs = _
      rw [h1, encB_at s p hps hnb, ← drop_rune]
    · have hnil : s.data.toList.drop p = [] := List.drop_eq_nil_of_le (by rw [Array.length_toList]; show s.size ≤ p; omega)
      rw [hnil]
      exact ⟨[], rfl, .nil⟩
def qtS (t : Bs) : Bs := safeL 0 (qtB t)
theorem qtS_yes {t : Bs} (h : (valid (st t)).2 = true) : qtS t = 34 :: (safeL 34 (quoteB t) ++ [34]) := by
  unfold qtS
  rw [← qt_text, quoteM_yes h, st_list, safe_app, safeL, if_neg (by decide), if_neg (by decide)]
  rw [safe_no (a := [34]) _ (by decide)]
  rfl
theorem scan_safe {t : Bs} {T : ByteArray} {a : Nat} (h : (valid (st t)).2 = true) (hat : At T a (qtS t)) : ∃ rs, encAll rs = t ∧ scanM T a = (a + (qtS t).length, 0, rs) := by
  rw [qtS_yes h] at hat ⊢
  obtain ⟨ha, hb, hat⟩ := At.cons hat
  obtain ⟨rs, h1, h2⟩ := spell_safe (st t) (st t).size 0 34 h (Nat.zero_le _) (by omega)
  rw [List.drop_zero, st_list] at h1 h2
  refine ⟨rs, h1, ?_⟩
  unfold scanM
  rw [if_pos ⟨ha, hb⟩, scan_spelt T h2 (a + 1) T.size [] hat (by omega)]
  simp only [List.nil_append, Prod.mk.injEq, and_true, List.length_cons, List.length_append, List.length_nil]
  omega
theorem unquote_safe {t : Bs} (h : (valid (st t)).2 = true) : unquoteM (st (qtS t)) = (t, (qtS t).length, 0) := by
  obtain ⟨rs, h1, h2⟩ := scan_safe (T := st (qtS t)) (a := 0) h ⟨[], by rw [st_list, List.append_nil]; rfl⟩
  unfold unquoteM
  rw [h2]
  simp only [Nat.zero_add]
  rw [if_neg (by omega), if_neg (by rw [st_size]; omega), h1]
structure Quo (Q : Bs → Bs) : Prop where
  pos : ∀ t, (valid (st t)).2 = true → 2 ≤ (Q t).length
  one : ∀ (T : ByteArray) (a : Nat) (t : Bs), (valid (st t)).2 = true → At T a (Q t) → oneM T a = (8, a + (Q t).length, 0)
  key : ∀ (T : ByteArray) (a : Nat) (t : Bs), (valid (st t)).2 = true → At T a (Q t) → a ≤ T.size → keyTx T a (a + (Q t).length) = t
theorem quo_safe : Quo qtS where
  pos := fun t h => by
    rw [qtS_yes h]
    simp only [List.length_cons, List.length_append, List.length_nil]
    omega
  one := fun T a t h hat => by
    obtain ⟨rs, _, h2⟩ := scan_safe h hat
    have hb : byt T a = 34 := by
      rw [qtS_yes h] at hat
      exact hat.cons.2.1
    unfold oneM
    simp only
    rw [hb, h2]
    rfl
  key := fun T a t h hat ha => by
    unfold keyTx
    rw [at_sub hat ha, unquote_safe h]
theorem quo_str {Q : Bs → Bs} (hQ : Quo Q) {T : ByteArray} {a : Nat} {t : Bs} (key : Nat × Nat) (h : (valid (st t)).2 = true) (hat : At T a (Q t)) (ha : a ≤ T.size) : LeafOk T (leafN (8, a, a + (Q t).length) key) ∧ leafV T (leafN (8, a, a + (Q t).length) key) = .mk 4 t [] [] := by
  have hp := hQ.pos t h
  have hle := hat.le ha
  refine ⟨⟨by show a < a + _; omega, hle, 8, hQ.one T a t h hat, rfl, .inr (.inr (.inr rfl))⟩, ?_⟩
  show Vl.mk 4 (keyTx T a (a + (Q t).length)) [] [] = _
  rw [hQ.key T a t h hat ha]
end Go.Proofs.YtkafjblfjdpdaaaGreatDoor

