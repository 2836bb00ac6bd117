/-
  WALKS: small().
-/
import Derived.Test.YtmadgdafgkleiaaGreatDoorRuF
import Derived.Test.YtmadgdafgkleiaaGreatDoorRuQ
namespace Go.Proofs.YtmadgdafgkleiaaGreatDoor
open Go.RowKit
theorem lit_okR {w : World} {g : Nat} {l : List Bs} {cs : Array Value} (h : Whole w g 9 cs) (hc : cs = (strV l).toArray) (hl : l.length ≤ 1000) : (⟨some ⟨g, 0, none⟩, l.length, l⟩ : SRow).ok w :=
  ⟨Nat.le_refl _, by unfold maxLen; simp only; omega, fun i hi => ⟨g, 0, rfl, by
    subst hc
    rw [Nat.zero_add, h.at_ i]
    unfold strV
    simp [hi]⟩⟩
theorem nil_okR (w : World) : (⟨none, 0, []⟩ : SRow).ok w := ⟨Nat.le_refl _, Nat.zero_le _, StrsIn.nil _ _⟩
theorem sm_1 : matchM [[97], [42], [98]] [[97], [49], [98]] = true := by kernel_rfl
theorem sm_2 : matchM [[97], [42, 42]] [[97]] = true := by kernel_rfl
theorem sm_3 : matchM [[42]] [] = false := by kernel_rfl
theorem sm_4 (o : Option Addr) (c : Nat) : printM [⟨⟨o, c, [[97], [42]]⟩, [105, 100]⟩] = ([34, 47, 97, 47, 42, 34, 32, 34, 105, 100, 34, 10], 0) := by kernel_rfl
theorem sm_5 : ruparseM [34, 47, 97, 47, 42, 34, 32, 34, 105, 100, 34, 10] = ([([[97], [42]], [105, 100])], 1, 0) := by kernel_rfl
theorem sm_6 (o : Option Addr) (c : Nat) : findM [⟨⟨o, c, [[97], [42]]⟩, [105, 100]⟩] [[97], [48]] = ([105, 100], true) := by kernel_rfl
theorem two_litsR (w : World) (A B : Array Value) (T : TypeId) : ∀ W, W = (w.alloc (.cells A T)).alloc (.cells B T) → Whole W w.heap.size T A ∧ Whole W (w.heap.size + 1) T B ∧ Below w.heap.size w W := fun W hW => by
  have h1 := (Whole.made w T A).alloc (.cells B T)
  have h2 := Whole.made (w.alloc (.cells A T)) T B
  simp only [World.size_alloc] at h1 h2
  subst hW
  exact ⟨h1, h2, below_trans (below_alloc w _) (below_alloc _ _)⟩
theorem match_lits {l q : List Bs} {v : Bool} {n m : Nat} (hv : matchM l q = v) (hn : l.length = n) (hm : q.length = m) (W : World) (g g' : Nat) {A B : Array Value} (hA : Whole W g 9 A) (hB : Whole W g' 9 B) (eA : A = (strV l).toArray) (eB : B = (strV q).toArray) (hn1 : n ≤ 1000) (hm1 : m ≤ 1000) :
    Calls Tryz.prog 11 #[.slice (some ⟨g, 0, none⟩) n n, .slice (some ⟨g', 0, none⟩) m m] W fun e W' => e = .returned (.bool v) ∧ Below W.heap.size W W' := by
  subst hn hm
  have h := match_any ⟨some ⟨g, 0, none⟩, l.length, l⟩ ⟨some ⟨g', 0, none⟩, q.length, q⟩ W (lit_okR hA eA hn1) (lit_okR hB eB hm1)
  unfold MatchPost SRow.v at h
  simp only [hv] at h
  exact h
theorem match_nil {l : List Bs} {v : Bool} {n : Nat} (hv : matchM l [] = v) (hn : l.length = n) (W : World) (g : Nat) {A : Array Value} (hA : Whole W g 9 A) (eA : A = (strV l).toArray) (hn1 : n ≤ 1000) :
    Calls Tryz.prog 11 #[.slice (some ⟨g, 0, none⟩) n n, .slice none 0 0] W fun e W' => e = .returned (.bool v) ∧ Below W.heap.size W W' := by
  subst hn
  have h := match_any ⟨some ⟨g, 0, none⟩, l.length, l⟩ ⟨none, 0, []⟩ W (lit_okR hA eA hn1) (nil_okR W)
  unfold MatchPost SRow.v at h
  simp only [hv] at h
  exact h
def txtR : Bs := [34, 47, 97, 47, 42, 34, 32, 34, 105, 100, 34, 10]
def ruR (o : Option Addr) (c : Nat) : RU := ⟨⟨o, c, [[97], [42]]⟩, [105, 100]⟩
theorem sht_R (o : Option Addr) (c : Nat) : ShtR [ruR o c] := fun r hr => by
  rw [List.mem_singleton.1 hr]
  refine ⟨fun x hx => ?_, show (2 : Nat) ≤ 134217728 by omega⟩
  have : x = [97] ∨ x = [42] := by simpa [ruR] using hx
  rcases this with h | h <;> rw [h] <;> decide
theorem print_lit (W : World) (hT : tabs W) (hM : mx W) (g g' : Nat) (hA : Whole W g 9 #[.string ⟨#[97]⟩, .string ⟨#[42]⟩]) (hB : Whole W g' 33 #[.slice (some ⟨g, 0, none⟩) 2 2, .string ⟨#[105, 100]⟩]) :
    Calls Tryz.prog 6 #[.slice (some ⟨g', 0, none⟩) 1 1] W fun e W' => e = .returned (.tuple #[.string (st txtR), .int .i64 0]) ∧ Below W.heap.size W W' := by
  have hp : (⟨some ⟨g, 0, none⟩, 2, [[97], [42]]⟩ : SRow).ok W := lit_okR (l := [[97], [42]]) hA rfl (by decide)
  have hok : RulesOk W (some ⟨g', 0, none⟩) 1 [ruR (some ⟨g, 0, none⟩) 2] := ⟨Nat.le_refl _, by unfold maxLen; omega, fun i hi => by
    have hi0 : i = 0 := by simpa using hi
    subst hi0
    refine ⟨g', 0, rfl, ?_, ?_, hp⟩
    · exact hB.at_ 0
    · exact hB.at_ 1, fun r hr => ⟨by rw [List.mem_singleton.1 hr]; show (2 : Nat) ≤ maxLen; unfold maxLen; omega, (sht_R (some ⟨g, 0, none⟩) 2 r hr).1.room⟩⟩
  have h := print_any _ 1 [ruR (some ⟨g, 0, none⟩) 2] W hT hM hok (sht_R _ _)
  have h4 := sm_4 (some ⟨g, 0, none⟩) 2
  unfold PtxPost at h
  unfold ruR at h
  rw [h4] at h
  exact h
theorem ruparse_lit (W : World) (hT : tabs W) (hM : mx W) :
    Calls Tryz.prog 9 #[.string (st txtR)] W fun e W' => ∃ o c o' c', e = .returned (.tuple #[.slice o 1 c, .int .i64 1, .int .i64 0]) ∧ RulesOk W' o c [ruR o' c'] ∧ Below W.heap.size W W' := by
  refine (ruparse_any txtR W hT hM (by decide)).mono ?_
  have h5 : ruparseM txtR = ([([[97], [42]], [105, 100])], 1, 0) := sm_5
  rintro e W' ⟨l, o, c, rfl, hown, hl, hb⟩
  rw [h5] at hl ⊢
  simp only at hl
  match l, hl with
  | [⟨⟨po, pc, pl⟩, k⟩], hl =>
    have hl2 : pl = [[97], [42]] ∧ k = [105, 100] := by simpa [RU.m] using hl
    obtain ⟨rfl, rfl⟩ := hl2
    exact ⟨o, c, po, pc, rfl, hown.ok (sht_R po pc), hb⟩
theorem find_lit (W : World) (o : Option Addr) (c : Nat) (o' : Option Addr) (c' : Nat) (hok : RulesOk W o c [ruR o' c']) (g : Nat) (hA : Whole W g 9 #[.string ⟨#[97]⟩, .string ⟨#[48]⟩]) :
    Calls Tryz.prog 12 #[.slice o 1 c, .slice (some ⟨g, 0, none⟩) 2 2] W fun e W' => e = .returned (.tuple #[.string (st [105, 100]), .bool true]) ∧ Below W.heap.size W W' := by
  have h := find_any o c [ruR o' c'] ⟨some ⟨g, 0, none⟩, 2, [[97], [48]]⟩ W hok (lit_okR (l := [[97], [48]]) hA rfl (by decide))
  have h6 := sm_6 o' c'
  unfold FindPost at h
  unfold ruR at h
  simp only at h
  rw [h6] at h
  exact h
set_option maxHeartbeats 4000000 in
set_option maxRecDepth 1000000 in
theorem rsmall_any (w : World) (hT : tabs w) (hM : mx w) : Calls Tryz.prog 4 #[] w (BoolPost true w) := by
  have HP : Hq (∀ W', Below w.heap.size w W' → BoolPost true w (.returned (.bool true)) W') := hq (fun W' h2 => ⟨rfl, h2⟩)
  have HTM := hq (And.intro hT hM)
  generalize BoolPost true w = PP at *
  clear hT hM
  go_enter Tryz.func4, Tryz.ntmps4
  go_wp2_with fail
  obtain ⟨h0, h1, hb1⟩ := two_litsR w #[.string ⟨#[97]⟩, .string ⟨#[42]⟩, .string ⟨#[98]⟩] #[.string ⟨#[97]⟩, .string ⟨#[49]⟩, .string ⟨#[98]⟩] 9 _ rfl
  refine (match_lits sm_1 rfl rfl _ _ _ h0 h1 rfl rfl (by decide) (by decide)).mono ?_
  rintro e w1 ⟨rfl, hb2⟩
  have HB1 := hq (below_trans hb1 hb2)
  clear h0 h1 hb1 hb2
  go_wp2_with fail
  obtain ⟨h0, h1, hb1⟩ := two_litsR w1 #[.string ⟨#[97]⟩, .string ⟨#[42, 42]⟩] #[.string ⟨#[97]⟩] 9 _ rfl
  refine (match_lits sm_2 rfl rfl _ _ _ h0 h1 rfl rfl (by decide) (by decide)).mono ?_
  rintro e w2 ⟨rfl, hb2⟩
  have HB2 := hq (below_trans HB1.o (below_trans hb1 hb2))
  clear h0 h1 hb1 hb2 HB1
  go_wp2_with fail
  have h0 := Whole.made w2 9 #[.string ⟨#[42]⟩]
  refine (match_nil sm_3 rfl _ _ h0 rfl (by decide)).mono ?_
  rintro e w3 ⟨rfl, hb2⟩
  have HB3 := hq (below_trans HB2.o (below_trans (below_alloc w2 _) hb2))
  clear h0 hb2 HB2
  go_wp2_with fail
  have h0 := (Whole.made w3 9 #[.string ⟨#[97]⟩, .string ⟨#[42]⟩]).alloc (.cells #[.slice (some ⟨w3.heap.size, 0, none⟩) 2 2, .string ⟨#[105, 100]⟩] 33)
  have h1 := Whole.made (w3.alloc (.cells #[.string ⟨#[97]⟩, .string ⟨#[42]⟩] 9)) 33 #[.slice (some ⟨w3.heap.size, 0, none⟩) 2 2, .string ⟨#[105, 100]⟩]
  rw [World.size_alloc] at h1
  have HB4 := hq (below_trans HB3.o (below_trans (below_alloc w3 (.cells #[.string ⟨#[97]⟩, .string ⟨#[42]⟩] 9)) (below_alloc _ (.cells #[.slice (some ⟨w3.heap.size, 0, none⟩) 2 2, .string ⟨#[105, 100]⟩] 33))))
  refine (print_lit _ (tabs_grow HTM.o.1 HB4.o) (mx_grow HTM.o.2 HB4.o) _ _ h0 h1).mono ?_
  rintro e w4 ⟨rfl, hb2⟩
  have HB5 := hq (below_trans HB4.o hb2)
  clear h0 h1 hb2 HB3 HB4
  go_wp2_with fail
  refine (ruparse_lit w4 (tabs_grow HTM.o.1 HB5.o) (mx_grow HTM.o.2 HB5.o)).mono ?_
  rintro e w5 ⟨o, c, o', c', rfl, hok, hb⟩
  have HB6 := hq (below_trans HB5.o hb)
  have HOK := hq hok
  clear hok hb HB5
  go_wp2_with fail
  have h0 := Whole.made w5 9 #[.string ⟨#[97]⟩, .string ⟨#[48]⟩]
  have hbz := below_alloc w5 (.cells #[.string ⟨#[97]⟩, .string ⟨#[48]⟩] 9)
  refine (find_lit _ o c o' c' (HOK.o.grow hbz) _ h0).mono ?_
  rintro e w6 ⟨rfl, hb⟩
  have HV := hq (HP.o w6 (below_trans HB6.o (below_trans hbz hb)))
  clear HP HOK h0 hbz hb HB6 HTM
  go_wp2_with fail
  first | exact HV.o | (go_ret; exact HV.o)
end Go.Proofs.YtmadgdafgkleiaaGreatDoor

