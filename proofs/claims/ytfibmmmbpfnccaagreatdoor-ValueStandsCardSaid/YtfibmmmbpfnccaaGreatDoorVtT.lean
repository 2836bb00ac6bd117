/-
  WALKS: value.objects and its closures.
-/
import Derived.Test.YtfibmmmbpfnccaaGreatDoorVtS
namespace Go.Proofs.YtfibmmmbpfnccaaGreatDoor
open Go.RowKit

/-- the order of two, their members put in order first -/
def cmpS (v w : Vl) : Int := cmpV (sortV v) (sortV w)
/-- each node may be -/
def Good (v : Vl) : Prop := v.allB nodeM = true
theorem Good.items {k : Int} {t : Bs} {ks : List Bs} {is : List Vl} (h : Good (.mk k t ks is)) : ∀ x ∈ is, Good x := by
  unfold Good at h
  simp only [Vl.allB, Bool.and_eq_true] at h
  exact Vl.allsB_iff.1 h.2
theorem Good.node {k : Int} {t : Bs} {ks : List Bs} {is : List Vl} (h : Good (.mk k t ks is)) : nodeM (.mk k t ks is) = true := by
  unfold Good at h
  simp only [Vl.allB, Bool.and_eq_true] at h
  exact h.1
theorem Good.obj {k : Int} {t : Bs} {ks : List Bs} {is : List Vl} (h : Good (.mk k t ks is)) (h6 : k = 6) : ks.length = is.length ∧ ks.length ≤ 4096 ∧ ks.Nodup := by
  have h1 := h.node
  rw [nodeM_mk, if_neg (by omega), if_pos h6] at h1
  unfold membersM at h1
  simp only [Bool.and_eq_true, decide_eq_true_eq] at h1
  exact ⟨h1.2.1, h1.2.2.1, h1.2.2.2.2⟩
theorem cmpS_obj {t t' : Bs} {ks ks' : List Bs} {is is' : List Vl} (h : Good (.mk 6 t ks is)) (h' : Good (.mk 6 t' ks' is')) :
    cmpS (.mk 6 t ks is) (.mk 6 t' ks' is') = thenM (lexM (fun i j => cmpB (keyAt ks i) (keyAt ks' j)) (ordN ks is.length) (ordN ks' is'.length)) (lexM (fun i j => cmpS (is.getD i default) (is'.getD j default)) (ordN ks is.length) (ordN ks' is'.length)) := by
  obtain ⟨h1, _, h2⟩ := h.obj rfl
  obtain ⟨h1', _, h2'⟩ := h'.obj rfl
  unfold cmpS
  have b1 : ByKey ks is.length (ordN ks is.length) := byKey_merge h2 h1
  have b2 : ByKey ks' is'.length (ordN ks' is'.length) := byKey_merge h2' h1'
  rw [sortV_obj h1 h2 b1, sortV_obj h1' h2' b2]
  refine (cmpV_same (by rfl)).trans ?_
  show bodyV 6 _ _ = _
  unfold bodyV
  rw [if_neg (by decide), if_neg (by decide), if_pos rfl]
  simp only [Vl.ks, Vl.is]
  rw [lexM_map, lexM_map]
set_option maxHeartbeats 4000000 in
set_option maxRecDepth 1000000 in
theorem objects1_any (ga gb : Nat) (ko ko' : Option Addr) (kc kc' : Nat) (kl kl' : List Bs) (V : World) (_hkl : kl.length ≤ kc) (_hkc : kc ≤ maxLen) (_hkl' : kl'.length ≤ kc') (_hkc' : kc' ≤ maxLen) (hc : V.cell? ⟨ga, 2, none⟩ = some (.slice ko kl.length kc)) (hc' : V.cell? ⟨gb, 2, none⟩ = some (.slice ko' kl'.length kc')) (hin : StrsIn V ko kl) (hin' : StrsIn V ko' kl') (i j : Nat) (hi : i < kl.length) (hj : j < kl'.length) :
    Calls Tryz.prog 153 #[.int .i64 (i : Int), .int .i64 (j : Int), .pointer (some ⟨ga, 0, none⟩), .pointer (some ⟨gb, 0, none⟩)] V (IPost (cmpB (keyAt kl i) (keyAt kl' j)) V) := by
  obtain ⟨b, f, ho, k0⟩ := hin i hi
  obtain ⟨b', f', ho', k1⟩ := hin' j hj
  rw [keyAt_lt hi, keyAt_lt hj]
  have hiz : (i : Int) < (kl.length : Int) := by omega
  have hjz : (j : Int) < (kl'.length : Int) := by omega
  unfold maxLen at _hkc _hkc'
  have HCM := hq (fun W => Tryz.strings_Compare (st kl[i]) (st kl'[j]) W)
  rw [st_list, st_list] at HCM
  have HP := hq (show IPost (cmpB kl[i] kl'[j]) V (.returned (.int .i64 (cmpB kl[i] kl'[j]))) V.drew from ⟨rfl, (Below.refl _ _).drew⟩)
  generalize IPost (cmpB kl[i] kl'[j]) V = PP at *
  generalize kl[i] = x at *
  generalize kl'[j] = y at *
  generalize hcm : cmpB x y = cm at *
  have HCM2 : Hq (∀ W, Calls Tryz.prog 93 #[.string (st x), .string (st y)] W fun e w' => e = .returned (.int .i64 cm) ∧ w' = W) := hq (fun W => by rw [← hcm]; exact HCM.o W)
  clear HCM hcm
  subst ho ho'
  go_enter Tryz.func153, Tryz.ntmps153
  go_wp2_with fail
  go_region_with (go_at_call 93; refine (HCM2.o _).mono ?_; rintro e9 w9 ⟨rfl, rfl⟩)
  all_goals go_wp2_with fail
  all_goals
    first
    | (go_ret; exact HP.o)
    | (go_ret2; exact HP.o)
    | (go_simp; exact HP.o)
set_option maxHeartbeats 4000000 in
set_option maxRecDepth 1000000 in
theorem objects2_any (ga gb : Nat) (o o' : Option Addr) (c c' : Nat) (is is' : List Vt) (V : World) (_hl : is.length ≤ c) (_hcc : c ≤ maxLen) (_hl' : is'.length ≤ c') (_hcc' : c' ≤ maxLen) (hc : V.cell? ⟨ga, 3, none⟩ = some (.slice o is.length c)) (hc' : V.cell? ⟨gb, 3, none⟩ = some (.slice o' is'.length c')) (hin : ItemsIn V o is) (hin' : ItemsIn V o' is') (i j : Nat) (hi : i < is.length) (hj : j < is'.length) (m : Int)
    (hih : ∀ W, Below V.heap.size V W → Calls Tryz.prog 79 #[is[i].v, is'[j].v] W (IPost m W)) :
    Calls Tryz.prog 154 #[.int .i64 (i : Int), .int .i64 (j : Int), .pointer (some ⟨ga, 0, none⟩), .pointer (some ⟨gb, 0, none⟩)] V (IPost m V) := by
  obtain ⟨b, f, ho, i0, i1, i2, i3⟩ := hin i hi
  obtain ⟨b', f', ho', j0, j1, j2, j3⟩ := hin' j hj
  have hiz : (i : Int) < (is.length : Int) := by omega
  have hjz : (j : Int) < (is'.length : Int) := by omega
  unfold maxLen at _hcc _hcc'
  have HC := hq hih
  have HP : Hq (∀ W, Below V.heap.size V W → IPost m V (.returned (.int .i64 m)) W) := hq (fun W h => ⟨rfl, h⟩)
  generalize IPost m V = PP at *
  clear hih hin hin'
  generalize is[i] = x at *
  generalize is'[j] = y at *
  subst ho ho'
  go_enter Tryz.func154, Tryz.ntmps154
  go_wp2_with fail
  go_region_with (go_at_call 79; refine (HC.o V.drew (Below.refl _ _).drew).mono ?_; rintro e9 w9 ⟨rfl, hb9⟩; have HV := hq (HP.o w9 (below_trans (Below.refl V.heap.size V).drew hb9)))
  all_goals go_wp2_with fail
  all_goals
    first
    | (go_ret; exact HV.o)
    | (go_ret2; exact HV.o)
    | (go_simp; exact HV.o)
theorem enter_objects1 (args : Array Value) (w : World) : (callFunc 153 args).run Tryz.prog w = .ok (.enter 153 args) w := by kernel_rfl
theorem enter_objects2 (args : Array Value) (w : World) : (callFunc 154 args).run Tryz.prog w = .ok (.enter 154 args) w := by kernel_rfl
theorem enter_compare (args : Array Value) (w : World) : (callFunc 79 args).run Tryz.prog w = .ok (.enter 79 args) w := by kernel_rfl

end Go.Proofs.YtfibmmmbpfnccaaGreatDoor
