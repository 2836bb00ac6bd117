/-
  THE WALK OF THE LAW RunesSteps: the runes of a text that is UTF-8 make it whole; one that is not breaks where Valid tells.
-/
import Derived.Test.YtmecolgceeegpaaDoorRunesSmall
namespace Go.Proofs.YtmecolgceeegpaaDoor
open Go.RowKit

theorem ba_ext {a b : ByteArray} (h : a.data = b.data) : a = b := by
  cases a; cases b; simp_all
theorem byt_of (s : ByteArray) (p : Nat) (h : p < s.size) : s[p] = UInt8.ofNat (byt s p) := by
  rw [byt_eq s p h]; simp
theorem ext_one (s : ByteArray) (p : Nat) (h : p + 1 ≤ s.size) : s.extract p (p + 1) = ⟨#[UInt8.ofNat (byt s p)]⟩ := by
  refine ByteArray.ext_getElem (by rw [ByteArray.size_extract]; show _ = 1; omega) fun i h1 h2 => ?_
  have hi : i < 1 := h2
  obtain rfl : i = 0 := by omega
  rw [ByteArray.getElem_extract, ← byt_of s p (by omega)]
  simp; rfl
theorem ext_two (s : ByteArray) (p : Nat) (h : p + 2 ≤ s.size) : s.extract p (p + 2) = ⟨#[UInt8.ofNat (byt s p), UInt8.ofNat (byt s (p + 1))]⟩ := by
  refine ByteArray.ext_getElem (by rw [ByteArray.size_extract]; show _ = 2; omega) fun i h1 h2 => ?_
  have hi : i < 2 := h2
  rw [ByteArray.getElem_extract, ← byt_of s p (by omega), ← byt_of s (p + 1) (by omega)]
  match i, hi with
  | 0, _ => rfl
  | 1, _ => rfl
theorem ext_three (s : ByteArray) (p : Nat) (h : p + 3 ≤ s.size) : s.extract p (p + 3) = ⟨#[UInt8.ofNat (byt s p), UInt8.ofNat (byt s (p + 1)), UInt8.ofNat (byt s (p + 2))]⟩ := by
  refine ByteArray.ext_getElem (by rw [ByteArray.size_extract]; show _ = 3; omega) fun i h1 h2 => ?_
  have hi : i < 3 := h2
  rw [ByteArray.getElem_extract, ← byt_of s p (by omega), ← byt_of s (p + 1) (by omega), ← byt_of s (p + 2) (by omega)]
  match i, hi with
  | 0, _ => rfl
  | 1, _ => rfl
  | 2, _ => rfl
theorem ext_four (s : ByteArray) (p : Nat) (h : p + 4 ≤ s.size) : s.extract p (p + 4) = ⟨#[UInt8.ofNat (byt s p), UInt8.ofNat (byt s (p + 1)), UInt8.ofNat (byt s (p + 2)), UInt8.ofNat (byt s (p + 3))]⟩ := by
  refine ByteArray.ext_getElem (by rw [ByteArray.size_extract]; show _ = 4; omega) fun i h1 h2 => ?_
  have hi : i < 4 := h2
  rw [ByteArray.getElem_extract, ← byt_of s p (by omega), ← byt_of s (p + 1) (by omega), ← byt_of s (p + 2) (by omega), ← byt_of s (p + 3) (by omega)]
  match i, hi with
  | 0, _ => rfl
  | 1, _ => rfl
  | 2, _ => rfl
  | 3, _ => rfl

theorem mk1 {a a' : Nat} (h : a = a') : (⟨#[UInt8.ofNat a]⟩ : ByteArray) = ⟨#[UInt8.ofNat a']⟩ := by rw [h]
theorem mk2 {a a' b b' : Nat} (h : a = a') (i : b = b') : (⟨#[UInt8.ofNat a, UInt8.ofNat b]⟩ : ByteArray) = ⟨#[UInt8.ofNat a', UInt8.ofNat b']⟩ := by rw [h, i]
theorem mk3 {a a' b b' c c' : Nat} (h : a = a') (i : b = b') (j : c = c') : (⟨#[UInt8.ofNat a, UInt8.ofNat b, UInt8.ofNat c]⟩ : ByteArray) = ⟨#[UInt8.ofNat a', UInt8.ofNat b', UInt8.ofNat c']⟩ := by rw [h, i, j]
theorem mk4 {a a' b b' c c' d d' : Nat} (h : a = a') (i : b = b') (j : c = c') (k : d = d') : (⟨#[UInt8.ofNat a, UInt8.ofNat b, UInt8.ofNat c, UInt8.ofNat d]⟩ : ByteArray) = ⟨#[UInt8.ofNat a', UInt8.ofNat b', UInt8.ofNat c', UInt8.ofNat d']⟩ := by rw [h, i, j, k]
theorem enc_valid (c : Nat) (h : c < 55296 ∨ 57344 ≤ c ∧ c ≤ 1114111) : Utf8.encode (c : Int) =
    if c < 0x80 then ⟨#[UInt8.ofNat c]⟩
    else if c < 0x800 then ⟨#[UInt8.ofNat (0xC0 + c / 64), UInt8.ofNat (0x80 + c % 64)]⟩
    else if c < 0x10000 then ⟨#[UInt8.ofNat (0xE0 + c / 4096), UInt8.ofNat (0x80 + c / 64 % 64), UInt8.ofNat (0x80 + c % 64)]⟩
    else ⟨#[UInt8.ofNat (0xF0 + c / 262144), UInt8.ofNat (0x80 + c / 4096 % 64), UInt8.ofNat (0x80 + c / 64 % 64), UInt8.ofNat (0x80 + c % 64)]⟩ := by
  have hv : Utf8.valid (c : Int) = true := by
    simp only [Utf8.valid, Bool.and_eq_true, Bool.or_eq_true, decide_eq_true_eq]; omega
  unfold Utf8.encode
  simp only [hv, if_true, Int.toNat_natCast]
/-- a rune's bytes, encoded again -/
theorem enc_dec (s : ByteArray) (p : Nat) (h : p < s.size) (hb : ¬ bad s p) : Utf8.encode (Utf8.decode s p).1 = s.extract p (p + (Utf8.decode s p).2) := by
  have hle := wd_le s p h
  have h0 := byt_lt s p
  have h1 := byt_lt s (p + 1)
  have h2 := byt_lt s (p + 2)
  have h3 := byt_lt s (p + 3)
  unfold bad at hb
  unfold wd at hle
  have x1 := ext_one s p
  have x2 := ext_two s p
  have x3 := ext_three s p
  have x4 := ext_four s p
  rw [dec_eq] at *
  generalize s.size - p = n at *
  generalize byt s (p + 1) = b1 at *
  generalize byt s (p + 2) = b2 at *
  generalize byt s (p + 3) = b3 at *
  generalize byt s p = b0 at *
  revert hb hle
  unfold Lib.decodeN
  split
  · intro hb hle
    rw [x1 hle, enc_valid _ (by simp only; omega), if_pos (by simp only; omega)]
  · split
    · split
      · intro hb hle
        rw [x2 hle, enc_valid _ (by simp only; omega), if_neg (by simp only; omega), if_pos (by simp only; omega)]
        refine mk2 ?_ ?_ <;> simp only <;> omega
      · intro hb hle; simp at hb
    · split
      · split
        · intro hb hle
          rw [x3 hle, enc_valid _ (by simp only; omega), if_neg (by simp only; omega), if_neg (by simp only; omega), if_pos (by simp only; omega)]
          refine mk3 ?_ ?_ ?_ <;> simp only <;> omega
        · intro hb hle; simp at hb
      · split
        · split
          · intro hb hle
            rw [x4 hle, enc_valid _ (by simp only; omega), if_neg (by simp only; omega), if_neg (by simp only; omega), if_neg (by simp only; omega)]
            refine mk4 ?_ ?_ ?_ ?_ <;> simp only <;> omega
          · intro hb hle; simp at hb
        · intro hb hle; simp at hb

theorem vld_step (s : ByteArray) (f p : Nat) (h : p < s.size) (hb : ¬ bad s p) : vld s (f + 1) p = vld s f (p + wd s p) := by
  rw [vld, if_pos h, if_neg hb]
theorem vld_bad (s : ByteArray) (f p : Nat) (h : p < s.size) (hb : bad s p) : vld s (f + 1) p = (p, false) := by
  rw [vld, if_pos h, if_pos hb]

set_option maxHeartbeats 1000000 in
set_option maxRecDepth 1000000 in
theorem steps_any (s : ByteArray) (w : World) (hT : tabs w) (hs : s.size ≤ maxLen) :
    Calls Tryd.prog 7 #[.string s] w fun e w' => e = .returned (.bool true) ∧ Below w.heap.size w w' := by
  have HT := Lib.hid hT
  clear hT
  have HS := Lib.hid hs
  unfold maxLen at hs
  go_enter Tryd.func7, Tryd.ntmps7
  go_wp2_with fail
  refine (small_any _ HT.out).mono ?_
  rintro e w1 ⟨rfl, hb1⟩
  have HT1 := Lib.hid (tabs_grow HT.out hb1)
  go_wp2_with fail
  refine (valid_any s _ HT1.out HS.out).mono ?_
  generalize hV : valid s = V
  have HV := Lib.hid hV
  clear hV
  rintro e w2 ⟨rfl, hb2⟩
  have HT2 := Lib.hid (tabs_grow HT1.out hb2)
  have hb12 := hb1.trans (hb2.mono hb1.size)
  obtain ⟨vn, vb⟩ := V
  go_wp2
  go_loopw [6] (fun p wr => ∃ (pos f : Nat), p = .int .i64 pos ∧ Below w2.heap.size w2 wr ∧ pos ≤ s.size ∧ s.size ≤ pos + f ∧ vld s f pos = (vn, vb)) (fun p _ => s.size - (intOf p).toNat)
  case atStart => exact ⟨0, s.size, rfl, Below.refl _ _, by omega, by omega, HV.out⟩
  case round =>
    obtain ⟨pos, f, rfl, hbr, hp, hf, hv⟩ := hrel
    have HVl := Lib.hid hv
    clear hv
    by_cases hlt : pos < s.size
    · obtain ⟨f, rfl⟩ : ∃ g, f = g + 1 := ⟨f - 1, by omega⟩
      have hwp := wd_pos s pos
      have hwl := wd_le s pos hlt
      have hw4 := wd_le4 s pos
      have hdl := decode_le s pos
      have HN : Hid (nxt s pos = (((Utf8.decode s pos).1 : Int), ((Utf8.decode s pos).2 : Int))) := Lib.hid (by unfold nxt; rw [if_neg (by omega)]; rfl)
      have HTr := Lib.hid (tabs_grow HT2.out hbr)
      have HBAD : Hid (bad s pos → vld s (f + 1) pos = (pos, false)) := Lib.hid (vld_bad s f pos hlt)
      have HGOOD : Hid (¬ bad s pos → vld s (f + 1) pos = vld s f (pos + (Utf8.decode s pos).2)) := Lib.hid (vld_step s f pos hlt)
      have HENC : Hid (¬ bad s pos → Utf8.encode (Utf8.decode s pos).1 = s.extract pos (pos + (Utf8.decode s pos).2)) := Lib.hid (enc_dec s pos hlt)
      have HBD : Hid (bad s pos ↔ (Utf8.decode s pos).1 = 65533 ∧ (Utf8.decode s pos).2 = 1) := Lib.hid Iff.rfl
      unfold wd at hwp hwl hw4
      generalize (Utf8.decode s pos).1 = C at *
      generalize (Utf8.decode s pos).2 = K at *
      go_wp2_with fail
      refine (next_any s pos _ HTr.out HS.out (by omega)).mono ?_
      rintro e w3 ⟨rfl, hb3⟩
      rw [HN.out]
      have hbr3 := hbr.trans (hb3.mono hbr.size)
      by_cases hbad : bad s pos
      · have hr := HVl.out
        rw [HBAD.out hbad] at hr
        obtain ⟨h1, h2⟩ := HBD.out.1 hbad
        have e1 : ((C : Int) == 65533) = true := by simp [h1]
        have e2 : ((K : Int) == 1) = true := by simp [h2]
        clear h1 h2 hbad
        simp only [Prod.mk.injEq] at hr
        obtain ⟨r1, r2⟩ := hr
        subst r1
        subst r2
        have e3 : ((pos : Int) == (pos : Int)) = true := by simp
        go_wp2
        go_ret
        exact ⟨rfl, hb12.trans (hbr3.mono hb12.size)⟩
      · have hr := HVl.out
        rw [HGOOD.out hbad] at hr
        have HR := Lib.hid hr
        clear hr
        have HE : Hid (True → Utf8.encode C = s.extract pos (pos + K)) := Lib.hid (fun _ => HENC.out hbad)
        clear HENC HBAD HGOOD
        by_cases hc : C = 65533
        · have e1 : ((C : Int) == 65533) = true := by simp [hc]
          have e2 : ((K : Int) == 1) = false := by simp; intro h; exact hbad (HBD.out.2 ⟨hc, by omega⟩)
          clear hbad hc HBD
          go_wp2
          · rename_i hq
            rw [HE.out trivial] at hq
            simp at hq
          · go_roundw
            case rel => exact ⟨pos + K, f, by go_num, hbr3, by omega, by omega, HR.out⟩
            case measure => simp [intOf]; omega
        · have e1 : ((C : Int) == 65533) = false := by simp; omega
          clear hbad hc HBD
          go_wp2
          · rename_i hq
            rw [HE.out trivial] at hq
            simp at hq
          · go_roundw
            case rel => exact ⟨pos + K, f, by go_num, hbr3, by omega, by omega, HR.out⟩
            case measure => simp [intOf]; omega
    · obtain rfl : pos = s.size := by omega
      have hr := HVl.out
      rw [vld_end s f _ (by omega)] at hr
      simp only [Prod.mk.injEq] at hr
      obtain ⟨r1, r2⟩ := hr
      subst r1
      subst r2
      have e3 : ((s.size : Int) == (s.size : Int)) = true := by simp
      go_wp2
      go_ret
      exact ⟨rfl, hb12.trans (hbr.mono hb12.size)⟩
end Go.Proofs.YtmecolgceeegpaaDoor
