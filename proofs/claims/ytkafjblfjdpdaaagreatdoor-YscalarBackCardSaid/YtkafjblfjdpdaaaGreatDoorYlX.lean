/-
  PLAIN MATHEMATICS: a line of YAML, taken apart; strings in single quotes.
  PLAIN MATHEMATICS: strings in single quotes; what stands in single quotes is read, wherever it stands.
-/
import Derived.Test.YtkafjblfjdpdaaaGreatDoorUna
namespace Go.Proofs.YtkafjblfjdpdaaaGreatDoor
open Go.RowKit
def badC (s : ByteArray) (del : Bool) (p : Nat) : Bool := decide (bad s p) || decide (byt s p < 32) || (del && byt s p == 127)
def clnM (s : ByteArray) (del : Bool) : Nat → Nat → Nat
  | 0, _ => s.size
  | f + 1, p => if p < s.size then (if badC s del p = true then p else clnM s del f (p + wd s p)) else s.size
def cleanM (s : ByteArray) (del : Bool) : Nat := clnM s del s.size 0
theorem clnM_end (s : ByteArray) (d : Bool) (f p : Nat) (h : ¬ p < s.size) : clnM s d f p = s.size := by
  cases f with
  | zero => rfl
  | succ f => unfold clnM; rw [if_neg h]
theorem clnM_bad (s : ByteArray) (d : Bool) (f p : Nat) (h : p < s.size) (hb : badC s d p = true) : clnM s d (f + 1) p = p := by unfold clnM; rw [if_pos h, if_pos hb]
theorem clnM_step (s : ByteArray) (d : Bool) (f p : Nat) (h : p < s.size) (hb : badC s d p = false) : clnM s d (f + 1) p = clnM s d f (p + wd s p) := by
  rw [clnM, if_pos h, if_neg (by rw [hb]; exact Bool.false_ne_true)]
theorem clnM_ok (s : ByteArray) (d : Bool) : ∀ f p, s.size ≤ p + f → p ≤ s.size → clnM s d f p = s.size → (∀ i, p ≤ i → i < s.size → 32 ≤ byt s i ∧ (d = true → byt s i ≠ 127)) ∧ (vld s f p).2 = true
  | 0, p, h, h0, _ => ⟨fun i h1 h2 => by omega, rfl⟩
  | f + 1, p, h, h0, he => by
    by_cases hp : p < s.size
    · cases hb : badC s d p with
      | true => rw [clnM_bad s d f p hp hb] at he; omega
      | false =>
        rw [clnM_step s d f p hp hb] at he
        have hw := wd_pos s p
        have hwl := wd_le s p hp
        obtain ⟨h1, h2⟩ := clnM_ok s d f (p + wd s p) (by omega) hwl he
        unfold badC at hb
        simp only [Bool.or_eq_false_iff, decide_eq_false_iff_not, Bool.and_eq_false_iff] at hb
        obtain ⟨⟨hb1, hb2⟩, hb3⟩ := hb
        refine ⟨fun i k1 k2 => ?_, ?_⟩
        · by_cases hi : i < p + wd s p
          · by_cases hip : i = p
            · subst hip
              refine ⟨by omega, fun hd => ?_⟩
              rcases hb3 with hb3 | hb3
              · rw [hd] at hb3; cases hb3
              · exact fun h => by rw [h] at hb3; cases hb3
            · have := wd_cont s p (i - p) (by omega) (by omega)
              rw [show p + (i - p) = i by omega] at this
              exact ⟨by omega, fun _ => by omega⟩
          · exact h1 i (by omega) k2
        · unfold vld
          rw [if_pos hp, if_neg hb1]
          exact h2
    · refine ⟨fun i h1 h2 => by omega, ?_⟩
      rw [vld_end s (f + 1) p hp]
def blkGo (s : ByteArray) : Nat → Nat → Nat
  | 0, p => p
  | f + 1, p => if p < s.size ∧ byt s p = 32 then blkGo s f (p + 1) else p
def blk (s : ByteArray) (p : Nat) : Nat := blkGo s (s.size - p) p
def sgn (s : ByteArray) (p c : Nat) : Bool := decide (p < s.size) && (byt s p == c) && (decide (p + 1 = s.size) || byt s (p + 1) == 32)
def cmt (s : ByteArray) (p : Nat) : Bool := decide (0 < p) && byt s p == 35 && byt s (p - 1) == 32
def keyGo (s : ByteArray) (a : Nat) : Nat → Nat → Nat
  | 0, _ => a
  | f + 1, q => if q < s.size then (if cmt s q = true then a else if a < q ∧ sgn s q 58 = true then q else keyGo s a f (q + 1)) else a
def keyTo (s : ByteArray) (a q : Nat) : Nat := keyGo s a (s.size - q) q
def cmtGo (s : ByteArray) : Nat → Nat → Nat
  | 0, _ => s.size
  | f + 1, q => if q < s.size then (if cmt s q = true then q else cmtGo s f (q + 1)) else s.size
def cmtTo (s : ByteArray) (q : Nat) : Nat := cmtGo s (s.size - q) q
def trm (s : ByteArray) (a : Nat) : Nat → Nat
  | 0 => 0
  | t + 1 => if a < t + 1 ∧ byt s t = 32 then trm s a t else t + 1
def sglGo (s : ByteArray) : Nat → Nat → Bs → Bs × Nat × Int
  | 0, _, _ => ([], s.size, 2)
  | f + 1, q, acc =>
    if q < s.size then
      (if byt s q = 39 then (if q + 1 < s.size ∧ byt s (q + 1) = 39 then sglGo s f (q + 2) (acc ++ [39]) else (acc, q + 1, 0))
       else if bad s q ∨ byt s q < 32 then ([], q, 2)
       else sglGo s f (q + wd s q) (acc ++ runeAt s q))
    else ([], s.size, 2)
def sglM (s : ByteArray) (a : Int) : Bs × Nat × Int :=
  if a < 0 ∨ (s.size : Int) < a then ([], 0, 2) else if a.toNat = s.size ∨ byt s a.toNat ≠ 39 then ([], a.toNat, 2) else sglGo s s.size (a.toNat + 1) []
theorem sglGo_end {s : ByteArray} {f q : Nat} {acc : Bs} (h : ¬ q < s.size) : sglGo s f q acc = ([], s.size, 2) := by
  cases f with
  | zero => rfl
  | succ f => rw [sglGo, if_neg h]
theorem sglGo_two {s : ByteArray} {f q : Nat} {acc : Bs} (h : q < s.size) (h1 : byt s q = 39) (h2 : q + 1 < s.size) (h3 : byt s (q + 1) = 39) : sglGo s (f + 1) q acc = sglGo s f (q + 2) (acc ++ [39]) := by
  rw [sglGo, if_pos h, if_pos h1, if_pos ⟨h2, h3⟩]
theorem sglGo_ok {s : ByteArray} {f q : Nat} {acc : Bs} (h : q < s.size) (h1 : byt s q = 39) (h2 : ¬ (q + 1 < s.size ∧ byt s (q + 1) = 39)) : sglGo s (f + 1) q acc = (acc, q + 1, 0) := by
  rw [sglGo, if_pos h, if_pos h1, if_neg h2]
theorem sglGo_bad {s : ByteArray} {f q : Nat} {acc : Bs} (h : q < s.size) (h1 : byt s q ≠ 39) (h2 : bad s q ∨ byt s q < 32) : sglGo s (f + 1) q acc = ([], q, 2) := by
  rw [sglGo, if_pos h, if_neg h1, if_pos h2]
theorem sglGo_rune {s : ByteArray} {f q : Nat} {acc : Bs} (h : q < s.size) (h1 : byt s q ≠ 39) (h2 : ¬ (bad s q ∨ byt s q < 32)) : sglGo s (f + 1) q acc = sglGo s f (q + wd s q) (acc ++ runeAt s q) := by
  rw [sglGo, if_pos h, if_neg h1, if_neg h2]
def qtd (s : ByteArray) (p : Nat) : Nat × Bool × Bool :=
  if p = s.size then (p, false, false)
  else if byt s p = 34 then ((scanM s p).1, true, (scanM s p).2.1 == 0)
  else if byt s p = 39 then ((sglM s p).2.1, true, (sglM s p).2.2 == 0)
  else (p, false, false)
def ykeyM (s : ByteArray) (p : Nat) : Nat × Bool :=
  if (qtd s p).2.1 = true then (if (qtd s p).2.2 = true ∧ sgn s (qtd s p).1 58 = true then ((qtd s p).1, true) else (p, (qtd s p).2.2))
  else if byt s p = 91 ∨ byt s p = 123 then (p, true)
  else (keyTo s p p, true)
def look (s : ByteArray) (p : Nat) : Nat := if (qtd s p).2.2 = true then (qtd s p).1 else p
def restM (s : ByteArray) (p : Nat) : (Nat × Nat) × Option Nat :=
  ((blk s p, trm s (blk s p) (cmtTo s (look s (blk s p)))), if cmtTo s (look s (blk s p)) < s.size then some (cmtTo s (look s (blk s p))) else none)
def lineD (s : ByteArray) (p : Nat) : Option (Nat × Option Nat × (Nat × Nat) × Option Nat) :=
  if p = s.size then some (1, none, (p, p), none)
  else if byt s p = 35 then some (2, none, (p, p), some p)
  else if sgn s p 45 = true then some (3, none, restM s (p + 1))
  else if (ykeyM s p).2 = false then none
  else if p < (ykeyM s p).1 then some (4, some (ykeyM s p).1, restM s ((ykeyM s p).1 + 1))
  else some (5, none, restM s p)
end Go.Proofs.YtkafjblfjdpdaaaGreatDoor

namespace Go.Proofs.YtkafjblfjdpdaaaGreatDoor
open Go.RowKit
def subst1 (c : UInt8) (new : Bs) (l : Bs) : Bs := l.flatMap fun b => if b = c then new else [b]
theorem subst1_none {c : UInt8} {new l : Bs} (h : l.count c = 0) : subst1 c new l = l := by
  unfold subst1
  have hn : ∀ b ∈ l, b ≠ c := fun b hb e => by
    have := List.count_eq_zero.1 h
    rw [e] at hb
    exact this hb
  induction l with
  | nil => rfl
  | cons b l ih =>
    rw [List.flatMap_cons, if_neg (hn b (by simp)), ih (by
      rw [List.count_cons] at h; omega) (fun x hx => hn x (by simp [hx]))]
    rfl
def dblB (l : Bs) : Bs := subst1 39 [39, 39] l
def quotedM (s : ByteArray) : Bs × Int := if cleanM s false = s.size then (39 :: dblB s.data.toList ++ [39], 0) else ([], 2)
theorem dblB_len : ∀ l : Bs, (dblB l).length ≤ 2 * l.length
  | [] => Nat.le_refl _
  | b :: l => by
    have := dblB_len l
    unfold dblB subst1 at *
    rw [List.flatMap_cons, List.length_append, List.length_cons]
    split <;> simp only [List.length_cons, List.length_nil] <;> omega
theorem vld_clean (s : ByteArray) : ∀ f p, s.size ≤ p + f → (vld s f p).2 = false → clnM s false f p < s.size
  | 0, p, h, h2 => by cases h2
  | f + 1, p, h, h2 => by
    by_cases hp : p < s.size
    · by_cases hb : bad s p
      · rw [clnM_bad s false f p hp (by unfold badC; rw [decide_eq_true hb]; rfl)]; exact hp
      · unfold vld at h2
        rw [if_pos hp, if_neg hb] at h2
        have hw := wd_pos s p
        have := vld_clean s f (p + wd s p) (by omega) h2
        cases hc : badC s false p with
        | true => rw [clnM_bad s false f p hp hc]; exact hp
        | false => rw [clnM_step s false f p hp hc]; exact this
    · rw [vld_end s (f + 1) p hp] at h2; cases h2
theorem clean_round (s : ByteArray) (f p : Nat) (h : p < s.size) (hb : ¬ bad s p) : clnM s false (f + 1) p = if byt s p < 32 then p else clnM s false f (p + wd s p) := by
  split
  · rename_i h32
    exact clnM_bad s false f p h (by unfold badC; rw [decide_eq_true h32]; simp)
  · rename_i h32
    exact clnM_step s false f p h (by unfold badC; rw [decide_eq_false h32, decide_eq_false hb]; rfl)
theorem drop_cons {t : ByteArray} {k : Nat} {x : UInt8} {l : Bs} (h : t.data.toList.drop k = x :: l) : k < t.size ∧ byt t k = x.toNat ∧ t.data.toList.drop (k + 1) = l := by
  have hlen : t.data.toList.length = t.size := Array.length_toList
  have hk : k < t.data.toList.length := by
    have := congrArg List.length h
    rw [List.length_drop, List.length_cons] at this
    omega
  have hg := List.drop_eq_getElem_cons hk
  rw [hg] at h
  injection h with h1 h2
  refine ⟨by omega, ?_, h2⟩
  rw [byt_eq t k (by omega), ← h1]; rfl
theorem drop_bytes {t : ByteArray} : ∀ {l : Bs} {k : Nat} {r : Bs}, t.data.toList.drop k = l ++ r → ∀ j (hj : j < l.length), byt t (k + j) = (l[j]'hj).toNat
  | [], k, r, _, j, hj => absurd hj (Nat.not_lt_zero j)
  | x :: l, k, r, h, j, hj => by
    obtain ⟨h1, h2, h3⟩ := drop_cons h
    cases j with
    | zero => exact h2
    | succ j =>
      rw [show k + (j + 1) = k + 1 + j by omega]
      exact drop_bytes h3 j (by simpa using hj)
theorem rune_split (s : ByteArray) (p : Nat) : s.data.toList.drop p = runeAt s p ++ s.data.toList.drop (p + wd s p) := by
  unfold runeAt
  rw [← List.drop_drop, List.take_append_drop]
theorem rune_byte (s : ByteArray) (p : Nat) (hp : p < s.size) (j : Nat) (hj : j < wd s p) : byt s (p + j) = ((runeAt s p)[j]'(by rw [runeAt_len s p hp]; exact hj)).toNat :=
  drop_bytes (rune_split s p) j (by rw [runeAt_len s p hp]; exact hj)
theorem dblB_app (a b : Bs) : dblB (a ++ b) = dblB a ++ dblB b := by unfold dblB subst1; exact List.flatMap_append
theorem dblB_no {l : Bs} (h : ∀ b ∈ l, b ≠ 39) : dblB l = l := subst1_none (by
  rw [List.count_eq_zero]
  exact fun hh => h 39 hh rfl)
theorem rune_no (s : ByteArray) (p : Nat) (hp : p < s.size) (h : byt s p ≠ 39) : ∀ b ∈ runeAt s p, b ≠ 39 := by
  intro b hb e
  obtain ⟨j, hj, hbj⟩ := List.mem_iff_getElem.1 hb
  rw [runeAt_len s p hp] at hj
  have hbj2 := rune_byte s p hp j hj
  rw [hbj, e] at hbj2
  by_cases h0 : j = 0
  · subst h0; exact h hbj2
  · have := wd_cont s p j (by omega) hj
    rw [hbj2] at this
    exact absurd this (by decide)
theorem single_back (s t : ByteArray) (rest : Bs) (hr : ∀ l, rest ≠ 39 :: l) : ∀ (f p k g : Nat) (acc : Bs), (vld s f p).2 = true → (∀ i, p ≤ i → i < s.size → 32 ≤ byt s i) → p ≤ s.size → s.size ≤ p + f →
    t.data.toList.drop k = dblB (s.data.toList.drop p) ++ 39 :: rest → t.size ≤ k + g → sglGo t g k acc = (acc ++ s.data.toList.drop p, k + (dblB (s.data.toList.drop p)).length + 1, 0) := by
  have fin : ∀ (p k g : Nat) (acc : Bs), p = s.size → t.data.toList.drop k = dblB (s.data.toList.drop p) ++ 39 :: rest → t.size ≤ k + g → sglGo t g k acc = (acc ++ s.data.toList.drop p, k + (dblB (s.data.toList.drop p)).length + 1, 0) := by
    intro p k g acc hp h hg
    have hnil : s.data.toList.drop p = [] := List.drop_eq_nil_of_le (by rw [Array.length_toList, hp]; exact Nat.le_refl _)
    rw [hnil] at h ⊢
    obtain ⟨h1, h2, h3⟩ := drop_cons (show t.data.toList.drop k = 39 :: rest from h)
    obtain ⟨g, rfl⟩ : ∃ g', g = g' + 1 := ⟨g - 1, by omega⟩
    have hn : ¬ (k + 1 < t.size ∧ byt t (k + 1) = 39) := by
      rintro ⟨q1, q2⟩
      cases rest with
      | nil =>
        have := congrArg List.length h3
        rw [List.length_drop, Array.length_toList, List.length_nil] at this
        have e : t.data.size = t.size := rfl
        omega
      | cons x l =>
        have q3 := (drop_cons h3).2.1
        rw [q2] at q3
        exact hr l (by rw [show x = 39 from (UInt8.toNat_inj.1 q3.symm)])
    rw [sglGo_ok h1 (by rw [h2]; rfl) hn, List.append_nil]
    rfl
  intro f
  induction f with
  | zero =>
    intro p k g acc _ _ hp hf h hg
    exact fin p k g acc (by omega) h hg
  | succ f ih =>
    intro p k g acc hv hc hp hf h hg
    by_cases hps : p < s.size
    · have hnb : ¬ bad s p := fun hb => by
        unfold vld at hv
        rw [if_pos hps, if_pos hb] at hv
        cases hv
      have hvn : (vld s f (p + wd s p)).2 = true := by
        unfold vld at hv
        rw [if_pos hps, if_neg hnb] at hv
        exact hv
      have hw := wd_pos s p
      have hwl := wd_le s p hps
      have hsp := rune_split s p
      have h32 := hc p (Nat.le_refl _) hps
      by_cases h39 : byt s p = 39
      · have hru : runeAt s p = [39] := by rw [runeAt_low s p hps (by omega), h39]; rfl
        have hw1 : wd s p = 1 := wd_low s p (by omega)
        rw [hru, hw1] at hsp
        have hd : dblB (s.data.toList.drop p) = 39 :: 39 :: dblB (s.data.toList.drop (p + 1)) := by rw [hsp, dblB_app]; rfl
        rw [hd] at h ⊢
        obtain ⟨a1, a2, a3⟩ := drop_cons (show t.data.toList.drop k = 39 :: (39 :: (dblB (s.data.toList.drop (p + 1)) ++ 39 :: rest)) from h)
        obtain ⟨b1, b2, b3⟩ := drop_cons a3
        obtain ⟨g, rfl⟩ : ∃ g', g = g' + 1 := ⟨g - 1, by omega⟩
        rw [sglGo_two a1 (by rw [a2]; rfl) b1 (by rw [b2]; rfl)]
        rw [hw1] at hvn
        rw [ih (p + 1) (k + 2) g (acc ++ [39]) hvn (fun i h1 h2 => hc i (by omega) h2) (by omega) (by omega) b3 (by omega), hsp]
        simp only [List.length_cons, List.append_assoc, List.cons_append, List.nil_append, Prod.mk.injEq, and_true, true_and]
        omega
      · have hd : dblB (s.data.toList.drop p) = runeAt s p ++ dblB (s.data.toList.drop (p + wd s p)) := by
          rw [hsp, dblB_app, dblB_no (rune_no s p hps h39)]
        have hrl := runeAt_len s p hps
        rw [hd, List.append_assoc] at h
        have hby : ∀ j, j < wd s p → byt t (k + j) = byt s (p + j) := fun j hj => by
          rw [rune_byte s p hps j hj]
          exact drop_bytes h j (by rw [hrl]; exact hj)
        have hlen := congrArg List.length h
        rw [List.length_drop, Array.length_toList, List.length_append, hrl, List.length_append, List.length_cons] at hlen
        have hts : t.data.size = t.size := rfl
        have hkt : k + wd s p < t.size := by omega
        have hdec := dec_same s t p k hnb (by omega) hby
        have hwt : wd t k = wd s p := by unfold wd; rw [hdec]
        have hbt : ¬ bad t k := by unfold bad at hnb ⊢; rw [hdec]; exact hnb
        have hk0 : byt t k = byt s p := hby 0 (by omega)
        have hdr : t.data.toList.drop (k + wd s p) = dblB (s.data.toList.drop (p + wd s p)) ++ 39 :: rest := by
          rw [← List.drop_drop, h, List.drop_left' hrl]
        have hrt : runeAt t k = runeAt s p := by
          unfold runeAt at hrl ⊢
          rw [hwt]
          show (t.data.toList.drop k).take (wd s p) = _
          rw [h]
          exact List.take_left' hrl
        obtain ⟨g, rfl⟩ : ∃ g', g = g' + 1 := ⟨g - 1, by omega⟩
        rw [sglGo_rune (by omega) (by omega) (fun hh => hh.elim hbt (fun h => by omega)), hwt, hrt]
        rw [ih (p + wd s p) (k + wd s p) g (acc ++ runeAt s p) hvn (fun i h1 h2 => hc i (by omega) h2) hwl (by omega) hdr (by omega), hd]
        rw [List.append_assoc, ← hsp, List.length_append, hrl]
        simp only [Prod.mk.injEq, and_true, true_and]
        omega
    · exact fin p k g acc (by omega) h hg
theorem sgl_quoted (s F B : ByteArray) (h : cleanM s false = s.size) (hb : ∀ l, B.data.toList ≠ 39 :: l) :
    sglM (F ++ st (39 :: dblB s.data.toList ++ [39]) ++ B) (F.size : Int) = (s.data.toList, F.size + (39 :: dblB s.data.toList ++ [39]).length, 0) := by
  have hl : (F ++ st (39 :: dblB s.data.toList ++ [39]) ++ B).data.toList = F.data.toList ++ (39 :: (dblB s.data.toList ++ 39 :: B.data.toList)) := by
    simp [st]
  have hd : (F ++ st (39 :: dblB s.data.toList ++ [39]) ++ B).data.toList.drop F.size = 39 :: (dblB s.data.toList ++ 39 :: B.data.toList) := by
    rw [hl]
    exact List.drop_left' Array.length_toList
  generalize F ++ st (39 :: dblB s.data.toList ++ [39]) ++ B = t at *
  obtain ⟨h1, h2, h3⟩ := drop_cons hd
  obtain ⟨c1, c2⟩ := clnM_ok s false s.size 0 (by omega) (Nat.zero_le _) h
  have key := single_back s t B.data.toList hb s.size 0 (F.size + 1) t.size [] c2 (fun i _ hi => (c1 i (Nat.zero_le _) hi).1) (Nat.zero_le _) (by omega) h3 (by omega)
  have e1 : ¬ ((F.size : Int) < 0 ∨ (t.size : Int) < (F.size : Int)) := by omega
  have e2 : ¬ (F.size = t.size ∨ byt t F.size ≠ 39) := fun hh => hh.elim (fun h => by omega) (fun h => h (by rw [h2]; rfl))
  unfold sglM
  simp only [if_neg e1, Int.toNat_natCast, if_neg e2]
  rw [key, List.drop_zero, List.nil_append]
  simp only [List.length_append, List.length_cons, List.length_nil, Prod.mk.injEq, and_true, true_and]
  omega
end Go.Proofs.YtkafjblfjdpdaaaGreatDoor

