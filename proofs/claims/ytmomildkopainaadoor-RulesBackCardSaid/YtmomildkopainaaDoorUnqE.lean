/-
  WALKS: quote.escape.
-/
import Derived.Test.YtmomildkopainaaDoorUnqU
import Derived.Test.YtmomildkopainaaDoorUnqP
namespace Go.Proofs.YtmomildkopainaaDoor
open Go.RowKit

theorem uni_sub (t : ByteArray) (a q : Nat) (ha : a ≤ t.size) : uni (t.extract a t.size) q = uni t (a + q) := by
  unfold uni
  have hsz : (t.extract a t.size).size = t.size - a := by rw [ByteArray.size_extract]; omega
  by_cases h : a + q + 6 ≤ t.size
  · have e : ∀ j, j < 6 → byt (t.extract a t.size) (q + j) = byt t (a + q + j) := fun j hj => by
      rw [byt_sub t a t.size (q + j) (Nat.le_refl _) (by omega)]; congr 1; omega
    have e0 := e 0 (by omega)
    rw [Nat.add_zero, Nat.add_zero] at e0
    rw [hsz, e0, e 1 (by omega), e 2 (by omega), e 3 (by omega), e 4 (by omega), e 5 (by omega)]
    by_cases hc : byt t (a + q) = 92 ∧ byt t (a + q + 1) = 117
    · rw [if_pos ⟨by omega, hc.1, hc.2⟩, if_pos ⟨h, hc.1, hc.2⟩]
    · rw [if_neg (fun hh => hc hh.2), if_neg (fun hh => hc hh.2)]
  · rw [if_neg (fun hh => h (by have := hh.1; omega)), if_neg (fun hh => h hh.1)]

def EscPost (o : Option (Nat × Nat)) (w : World) (e : Ending) (w' : World) : Prop := e = .returned (.tuple #[.int .i32 (((o.getD (0, 0)).1 : Nat) : Int), .int .i64 (((o.getD (0, 0)).2 : Nat) : Int)]) ∧ Below w.heap.size w w'
theorem EscPost.mk {o : Option (Nat × Nat)} {r n : Nat} {a b : Int} {w w' : World} (h : o = some (r, n)) (ha : a = (r : Int)) (hb : b = (n : Int)) (hw : Below w.heap.size w w') : EscPost o w (.returned (.tuple #[.int .i32 a, .int .i64 b])) w' := by
  subst h; subst ha; subst hb; exact ⟨rfl, hw⟩
theorem EscPost.no {o : Option (Nat × Nat)} {w w' : World} (h : o = none) (hw : Below w.heap.size w w') : EscPost o w (.returned (.tuple #[.int .i32 0, .int .i64 0])) w' := by
  subst h; exact ⟨rfl, hw⟩

def esc2 (n : Nat) (o6 : Option Nat) : Option (Nat × Nat) :=
  match o6 with
  | none => none
  | some m => if m < 56320 ∨ 57343 < m then none else some (65536 + (n - 55296) * 1024 + (m - 56320), 12)
def esc1 (o o6 : Option Nat) : Option (Nat × Nat) :=
  match o with
  | none => none
  | some n => if 56320 ≤ n ∧ n ≤ 57343 then none else if n < 55296 ∨ 57343 < n then some (n, 6) else esc2 n o6
theorem escU_is (t : ByteArray) : escU t 0 = esc1 (uni t 0) (uni t 6) := by
  unfold escU esc1 esc2
  rw [Nat.zero_add]
  cases uni t 0 with
  | none => rfl
  | some n => cases uni t 6 <;> rfl

set_option maxHeartbeats 2000000 in
set_option maxRecDepth 1000000 in
theorem escape_any (t : ByteArray) (w : World) (hs : t.size ≤ 1099511627776) : Calls Tryd.prog 134 #[.string t] w (EscPost (escM t 0) w) := by
  generalize hR : escM t 0 = R
  have HR := hq hR
  clear hR
  unfold escM at HR
  simp only [Nat.zero_add] at HR
  by_cases h2 : t.size < 2
  · have HN := hq (HR.o.symm.trans (if_pos h2))
    clear HR
    go_enter Tryd.func134, Tryd.ntmps134
    go_wp2_with fail
    go_ret2
    exact EscPost.no HN.o (Below.refl _ _)
  · have HR2 := hq (HR.o.symm.trans (if_neg h2))
    clear HR
    have y1 : ((t[1]'(by omega)).toNat : Int) = (byt t 1 : Int) := by rw [byt_eq t 1 (by omega)]
    have hb1 := byt_lt t 1
    have ho := fun W => unicode_any t W hs
    have hU := escU_is t
    have hlt := fun n => @uni_lt t 0 n
    have hlt6 := fun n => @uni_lt t 6 n
    have hsz : ∀ n, uni t 0 = some n → 6 ≤ t.size := fun n h => by
      unfold uni at h
      split at h
      · rename_i hh; omega
      · cases h
    have hsec : 6 ≤ t.size → ∀ W, Calls Tryd.prog 147 #[.string (t.extract 6 t.size)] W (UniPost (uni t 6) W) := fun h6 W => by
      have := unicode_any (t.extract 6 t.size) W (by rw [ByteArray.size_extract]; omega)
      rwa [uni_sub t 6 0 h6] at this
    generalize byt t 1 = c at *
    generalize escU t 0 = U at *
    generalize uni t 0 = o at *
    generalize uni t 6 = o6 at *
    have HO := hq ho
    have HU := hq hU
    have HLT := hq hlt
    have HLT6 := hq hlt6
    have HSZ := hq hsz
    have HSEC := hq hsec
    clear ho hU hlt hlt6 hsz hsec
    by_cases ha : c = 34 ∨ c = 92 ∨ c = 47
    · have HN := hq (HR2.o.trans (if_pos ha))
      clear HR2 HU HLT HLT6 HSZ HSEC HO
      have hcs : ((c : Int) == 34) = true ∨ (((c : Int) == 34) = false ∧ ((c : Int) == 92) = true) ∨ (((c : Int) == 34) = false ∧ ((c : Int) == 92) = false ∧ ((c : Int) == 47) = true) := by
        rcases ha with h | h | h
        · left; rw [h]; rfl
        · right; left; rw [h]; exact ⟨rfl, rfl⟩
        · right; right; rw [h]; exact ⟨rfl, rfl, rfl⟩
      clear ha
      rcases hcs with e | ⟨e, e'⟩ | ⟨e, e', e''⟩
      all_goals
        go_enter Tryd.func134, Tryd.ntmps134
        go_wp2_with fail
        go_ret2
        exact EscPost.mk HN.o rfl rfl (Below.refl _ _)
    · have HR3 := hq (HR2.o.trans (if_neg ha))
      have e1 : ((c : Int) == 34) = false := beq_eq_false_iff_ne.2 (by omega)
      have e2 : ((c : Int) == 92) = false := beq_eq_false_iff_ne.2 (by omega)
      have e3 : ((c : Int) == 47) = false := beq_eq_false_iff_ne.2 (by omega)
      clear HR2 ha
      by_cases b98 : c = 98
      · have HN := hq (HR3.o.trans (if_pos b98))
        have f98 : ((c : Int) == 98) = true := by rw [b98]; rfl
        clear HR3 HU HLT HLT6 HSZ HSEC HO b98
        go_enter Tryd.func134, Tryd.ntmps134
        go_wp2_with fail
        go_ret2
        exact EscPost.mk (r := 8) (n := 2) HN.o rfl rfl (Below.refl _ _)
      have HR4 := hq (HR3.o.trans (if_neg b98))
      have f98 : ((c : Int) == 98) = false := beq_eq_false_iff_ne.2 (by omega)
      clear HR3
      by_cases b102 : c = 102
      · have HN := hq (HR4.o.trans (if_pos b102))
        have f102 : ((c : Int) == 102) = true := by rw [b102]; rfl
        clear HR4 HU HLT HLT6 HSZ HSEC HO b102
        go_enter Tryd.func134, Tryd.ntmps134
        go_wp2_with fail
        go_ret2
        exact EscPost.mk (r := 12) (n := 2) HN.o rfl rfl (Below.refl _ _)
      have HR5 := hq (HR4.o.trans (if_neg b102))
      have f102 : ((c : Int) == 102) = false := beq_eq_false_iff_ne.2 (by omega)
      clear HR4
      by_cases b110 : c = 110
      · have HN := hq (HR5.o.trans (if_pos b110))
        have f110 : ((c : Int) == 110) = true := by rw [b110]; rfl
        clear HR5 HU HLT HLT6 HSZ HSEC HO b110
        go_enter Tryd.func134, Tryd.ntmps134
        go_wp2_with fail
        go_ret2
        exact EscPost.mk (r := 10) (n := 2) HN.o rfl rfl (Below.refl _ _)
      have HR6 := hq (HR5.o.trans (if_neg b110))
      have f110 : ((c : Int) == 110) = false := beq_eq_false_iff_ne.2 (by omega)
      clear HR5
      by_cases b114 : c = 114
      · have HN := hq (HR6.o.trans (if_pos b114))
        have f114 : ((c : Int) == 114) = true := by rw [b114]; rfl
        clear HR6 HU HLT HLT6 HSZ HSEC HO b114
        go_enter Tryd.func134, Tryd.ntmps134
        go_wp2_with fail
        go_ret2
        exact EscPost.mk (r := 13) (n := 2) HN.o rfl rfl (Below.refl _ _)
      have HR7 := hq (HR6.o.trans (if_neg b114))
      have f114 : ((c : Int) == 114) = false := beq_eq_false_iff_ne.2 (by omega)
      clear HR6
      by_cases b116 : c = 116
      · have HN := hq (HR7.o.trans (if_pos b116))
        have f116 : ((c : Int) == 116) = true := by rw [b116]; rfl
        clear HR7 HU HLT HLT6 HSZ HSEC HO b116
        go_enter Tryd.func134, Tryd.ntmps134
        go_wp2_with fail
        go_ret2
        exact EscPost.mk (r := 9) (n := 2) HN.o rfl rfl (Below.refl _ _)
      have HR8 := hq (HR7.o.trans (if_neg b116))
      have f116 : ((c : Int) == 116) = false := beq_eq_false_iff_ne.2 (by omega)
      clear HR7
      have HR9 : Hq (R = esc1 o o6) := hq (by rw [HR8.o, HU.o])
      clear HR8 HU b98 b102 b110 b114 b116
      have hb2 : 2 ≤ t.size := by omega
      cases o with
      | none =>
        have HN : Hq (R = none) := hq HR9.o
        exact (escape_none t w c hb2 hs y1 e1 e2 e3 f98 f102 f110 f114 f116 (hq fun W => HO.o W)).mono fun e w' ⟨he, hb⟩ => by subst he; exact EscPost.no HN.o hb
      | some n =>
        have hn := HLT.o n rfl
        have h6 := HSZ.o n rfl
        have HR10 : R = if 56320 ≤ n ∧ n ≤ 57343 then none else if n < 55296 ∨ 57343 < n then some (n, 6) else esc2 n o6 := HR9.o
        by_cases hl : 56320 ≤ n ∧ n ≤ 57343
        · rw [if_pos hl] at HR10
          exact (escape_low t w c n hb2 hs y1 e1 e2 e3 f98 f102 f110 f114 f116 (by omega) (by omega) (hq fun W => HO.o W)).mono fun e w' ⟨he, hb⟩ => by subst he; exact EscPost.no HR10 hb
        · rw [if_neg hl] at HR10
          by_cases hh : n < 55296 ∨ 57343 < n
          · rw [if_pos hh] at HR10
            by_cases hh1 : n < 55296
            · exact (escape_one1 t w c n hb2 hs y1 e1 e2 e3 f98 f102 f110 f114 f116 (by omega) (by omega) (hq fun W => HO.o W)).mono fun e w' ⟨he, hb⟩ => by subst he; exact EscPost.mk HR10 rfl rfl hb
            · exact (escape_one2 t w c n hb2 hs y1 e1 e2 e3 f98 f102 f110 f114 f116 (by omega) (by omega) (hq fun W => HO.o W)).mono fun e w' ⟨he, hb⟩ => by subst he; exact EscPost.mk HR10 rfl rfl hb
          · rw [if_neg hh] at HR10
            cases o6 with
            | none => exact (escape_half t w c n h6 hs y1 e1 e2 e3 f98 f102 f110 f114 f116 (by omega) (by omega) (hq fun W => HO.o W) (hq fun W => HSEC.o h6 W)).mono fun e w' ⟨he, hb⟩ => by subst he; exact EscPost.no HR10 hb
            | some m =>
              have hm := HLT6.o m rfl
              have HR11 : R = if m < 56320 ∨ 57343 < m then none else some (65536 + (n - 55296) * 1024 + (m - 56320), 12) := HR10
              by_cases m1 : m < 56320
              · rw [if_pos (.inl m1)] at HR11
                exact (escape_bad1 t w c n m h6 hs y1 e1 e2 e3 f98 f102 f110 f114 f116 (by omega) (by omega) (by omega) (by omega) (hq fun W => HO.o W) (hq fun W => HSEC.o h6 W)).mono fun e w' ⟨he, hb⟩ => by subst he; exact EscPost.no HR11 hb
              · by_cases m2 : 57343 < m
                · rw [if_pos (.inr m2)] at HR11
                  exact (escape_bad2 t w c n m h6 hs y1 e1 e2 e3 f98 f102 f110 f114 f116 (by omega) (by omega) (by omega) (by omega) (hq fun W => HO.o W) (hq fun W => HSEC.o h6 W)).mono fun e w' ⟨he, hb⟩ => by subst he; exact EscPost.no HR11 hb
                · rw [if_neg (by omega)] at HR11
                  exact (escape_pair t w c n m h6 hs y1 e1 e2 e3 f98 f102 f110 f114 f116 (by omega) (by omega) (by omega) (by omega) (hq fun W => HO.o W) (hq fun W => HSEC.o h6 W)).mono fun e w' ⟨he, hb⟩ => by subst he; exact EscPost.mk HR11 (by omega) rfl hb
end Go.Proofs.YtmomildkopainaaDoor
