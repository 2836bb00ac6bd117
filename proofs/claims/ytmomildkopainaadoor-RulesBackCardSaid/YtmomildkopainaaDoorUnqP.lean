/-
  WALK: quote.escape at a pair of escapes that stand for one rune.
-/
import Derived.Test.YtmomildkopainaaDoorUnqU
namespace Go.Proofs.YtmomildkopainaaDoor
open Go.RowKit

set_option maxHeartbeats 400000 in
set_option maxRecDepth 1000000 in
theorem escape_pair (t : ByteArray) (w : World) (c : Nat) (n m : Int) (h6 : 6 ≤ t.size) (hs : t.size ≤ 1099511627776) (y1 : ((t[1]'(by omega)).toNat : Int) = (c : Int))
    (e1 : ((c : Int) == 34) = false) (e2 : ((c : Int) == 92) = false) (e3 : ((c : Int) == 47) = false) (f1 : ((c : Int) == 98) = false) (f2 : ((c : Int) == 102) = false) (f3 : ((c : Int) == 110) = false) (f4 : ((c : Int) == 114) = false) (f5 : ((c : Int) == 116) = false)
    (n1 : 55296 ≤ n) (n2 : n ≤ 56319) (m1 : 56320 ≤ m) (m2 : m ≤ 57343)
    (HO : Hq (∀ W, Calls Tryd.prog 147 #[.string t] W fun e w' => e = .returned (.tuple #[.int .i32 n, .bool true]) ∧ Below W.heap.size W w'))
    (HS : Hq (∀ W, Calls Tryd.prog 147 #[.string (t.extract 6 t.size)] W fun e w' => e = .returned (.tuple #[.int .i32 m, .bool true]) ∧ Below W.heap.size W w')) :
    Calls Tryd.prog 134 #[.string t] w fun e w' => e = .returned (.tuple #[.int .i32 (65536 + (n - 55296) * 1024 + (m - 56320)), .int .i64 12]) ∧ Below w.heap.size w w' := by
  go_enter Tryd.func134, Tryd.ntmps134
  go_wp2_with fail
  refine (HO.o _).mono ?_
  rintro e w1 ⟨rfl, hb1⟩
  go_wp2_with fail
  refine (HS.o _).mono ?_
  rintro e w2 ⟨rfl, hb2⟩
  have hb' := below_trans hb1 hb2
  clear hb1 hb2
  go_wp2_with fail
  go_ret2
  exact ⟨ret_two (int_eq (by omega)) rfl, hb'⟩
set_option maxHeartbeats 400000 in
set_option maxRecDepth 1000000 in
theorem escape_none (t : ByteArray) (w : World) (c : Nat) (h6 : 2 ≤ t.size) (hs : t.size ≤ 1099511627776) (y1 : ((t[1]'(by omega)).toNat : Int) = (c : Int))
    (e1 : ((c : Int) == 34) = false) (e2 : ((c : Int) == 92) = false) (e3 : ((c : Int) == 47) = false) (f1 : ((c : Int) == 98) = false) (f2 : ((c : Int) == 102) = false) (f3 : ((c : Int) == 110) = false) (f4 : ((c : Int) == 114) = false) (f5 : ((c : Int) == 116) = false)
    
    (HO : Hq (∀ W, Calls Tryd.prog 147 #[.string t] W fun e w' => e = .returned (.tuple #[.int .i32 0, .bool false]) ∧ Below W.heap.size W w')) :
    Calls Tryd.prog 134 #[.string t] w fun e w' => e = .returned (.tuple #[.int .i32 0, .int .i64 0]) ∧ Below w.heap.size w w' := by
  go_enter Tryd.func134, Tryd.ntmps134
  go_wp2_with fail
  refine (HO.o _).mono ?_
  rintro e w1 ⟨rfl, hb1⟩
  go_wp2_with fail
  go_ret2
  exact ⟨rfl, hb1⟩
set_option maxHeartbeats 400000 in
set_option maxRecDepth 1000000 in
theorem escape_low (t : ByteArray) (w : World) (c : Nat) (n : Int) (h6 : 2 ≤ t.size) (hs : t.size ≤ 1099511627776) (y1 : ((t[1]'(by omega)).toNat : Int) = (c : Int))
    (e1 : ((c : Int) == 34) = false) (e2 : ((c : Int) == 92) = false) (e3 : ((c : Int) == 47) = false) (f1 : ((c : Int) == 98) = false) (f2 : ((c : Int) == 102) = false) (f3 : ((c : Int) == 110) = false) (f4 : ((c : Int) == 114) = false) (f5 : ((c : Int) == 116) = false)
    (n1 : 56320 ≤ n) (n2 : n ≤ 57343)
    (HO : Hq (∀ W, Calls Tryd.prog 147 #[.string t] W fun e w' => e = .returned (.tuple #[.int .i32 n, .bool true]) ∧ Below W.heap.size W w')) :
    Calls Tryd.prog 134 #[.string t] w fun e w' => e = .returned (.tuple #[.int .i32 0, .int .i64 0]) ∧ Below w.heap.size w w' := by
  go_enter Tryd.func134, Tryd.ntmps134
  go_wp2_with fail
  refine (HO.o _).mono ?_
  rintro e w1 ⟨rfl, hb1⟩
  go_wp2_with fail
  go_ret2
  exact ⟨rfl, hb1⟩
set_option maxHeartbeats 400000 in
set_option maxRecDepth 1000000 in
theorem escape_one1 (t : ByteArray) (w : World) (c : Nat) (n : Int) (h6 : 2 ≤ t.size) (hs : t.size ≤ 1099511627776) (y1 : ((t[1]'(by omega)).toNat : Int) = (c : Int))
    (e1 : ((c : Int) == 34) = false) (e2 : ((c : Int) == 92) = false) (e3 : ((c : Int) == 47) = false) (f1 : ((c : Int) == 98) = false) (f2 : ((c : Int) == 102) = false) (f3 : ((c : Int) == 110) = false) (f4 : ((c : Int) == 114) = false) (f5 : ((c : Int) == 116) = false)
    (n1 : n < 55296) (n2 : 0 ≤ n)
    (HO : Hq (∀ W, Calls Tryd.prog 147 #[.string t] W fun e w' => e = .returned (.tuple #[.int .i32 n, .bool true]) ∧ Below W.heap.size W w')) :
    Calls Tryd.prog 134 #[.string t] w fun e w' => e = .returned (.tuple #[.int .i32 n, .int .i64 6]) ∧ Below w.heap.size w w' := by
  go_enter Tryd.func134, Tryd.ntmps134
  go_wp2_with fail
  refine (HO.o _).mono ?_
  rintro e w1 ⟨rfl, hb1⟩
  go_wp2_with fail
  go_ret2
  exact ⟨rfl, hb1⟩
set_option maxHeartbeats 400000 in
set_option maxRecDepth 1000000 in
theorem escape_one2 (t : ByteArray) (w : World) (c : Nat) (n : Int) (h6 : 2 ≤ t.size) (hs : t.size ≤ 1099511627776) (y1 : ((t[1]'(by omega)).toNat : Int) = (c : Int))
    (e1 : ((c : Int) == 34) = false) (e2 : ((c : Int) == 92) = false) (e3 : ((c : Int) == 47) = false) (f1 : ((c : Int) == 98) = false) (f2 : ((c : Int) == 102) = false) (f3 : ((c : Int) == 110) = false) (f4 : ((c : Int) == 114) = false) (f5 : ((c : Int) == 116) = false)
    (n1 : 57343 < n) (n2 : n ≤ 65535)
    (HO : Hq (∀ W, Calls Tryd.prog 147 #[.string t] W fun e w' => e = .returned (.tuple #[.int .i32 n, .bool true]) ∧ Below W.heap.size W w')) :
    Calls Tryd.prog 134 #[.string t] w fun e w' => e = .returned (.tuple #[.int .i32 n, .int .i64 6]) ∧ Below w.heap.size w w' := by
  go_enter Tryd.func134, Tryd.ntmps134
  go_wp2_with fail
  refine (HO.o _).mono ?_
  rintro e w1 ⟨rfl, hb1⟩
  go_wp2_with fail
  go_ret2
  exact ⟨rfl, hb1⟩
set_option maxHeartbeats 400000 in
set_option maxRecDepth 1000000 in
theorem escape_half (t : ByteArray) (w : World) (c : Nat) (n : Int) (h6 : 6 ≤ t.size) (hs : t.size ≤ 1099511627776) (y1 : ((t[1]'(by omega)).toNat : Int) = (c : Int))
    (e1 : ((c : Int) == 34) = false) (e2 : ((c : Int) == 92) = false) (e3 : ((c : Int) == 47) = false) (f1 : ((c : Int) == 98) = false) (f2 : ((c : Int) == 102) = false) (f3 : ((c : Int) == 110) = false) (f4 : ((c : Int) == 114) = false) (f5 : ((c : Int) == 116) = false)
    (n1 : 55296 ≤ n) (n2 : n ≤ 56319)
    (HO : Hq (∀ W, Calls Tryd.prog 147 #[.string t] W fun e w' => e = .returned (.tuple #[.int .i32 n, .bool true]) ∧ Below W.heap.size W w'))
    (HS : Hq (∀ W, Calls Tryd.prog 147 #[.string (t.extract 6 t.size)] W fun e w' => e = .returned (.tuple #[.int .i32 0, .bool false]) ∧ Below W.heap.size W w')) :
    Calls Tryd.prog 134 #[.string t] w fun e w' => e = .returned (.tuple #[.int .i32 0, .int .i64 0]) ∧ Below w.heap.size w w' := by
  go_enter Tryd.func134, Tryd.ntmps134
  go_wp2_with fail
  refine (HO.o _).mono ?_
  rintro e w1 ⟨rfl, hb1⟩
  go_wp2_with fail
  refine (HS.o _).mono ?_
  rintro e w2 ⟨rfl, hb2⟩
  have hb' := below_trans hb1 hb2
  clear hb1 hb2
  go_wp2_with fail
  go_ret2
  exact ⟨ret_two (int_eq (by omega)) rfl, hb'⟩
set_option maxHeartbeats 400000 in
set_option maxRecDepth 1000000 in
theorem escape_bad1 (t : ByteArray) (w : World) (c : Nat) (n m : Int) (h6 : 6 ≤ t.size) (hs : t.size ≤ 1099511627776) (y1 : ((t[1]'(by omega)).toNat : Int) = (c : Int))
    (e1 : ((c : Int) == 34) = false) (e2 : ((c : Int) == 92) = false) (e3 : ((c : Int) == 47) = false) (f1 : ((c : Int) == 98) = false) (f2 : ((c : Int) == 102) = false) (f3 : ((c : Int) == 110) = false) (f4 : ((c : Int) == 114) = false) (f5 : ((c : Int) == 116) = false)
    (n1 : 55296 ≤ n) (n2 : n ≤ 56319) (m1 : m < 56320) (_ : 0 ≤ m)
    (HO : Hq (∀ W, Calls Tryd.prog 147 #[.string t] W fun e w' => e = .returned (.tuple #[.int .i32 n, .bool true]) ∧ Below W.heap.size W w'))
    (HS : Hq (∀ W, Calls Tryd.prog 147 #[.string (t.extract 6 t.size)] W fun e w' => e = .returned (.tuple #[.int .i32 m, .bool true]) ∧ Below W.heap.size W w')) :
    Calls Tryd.prog 134 #[.string t] w fun e w' => e = .returned (.tuple #[.int .i32 0, .int .i64 0]) ∧ Below w.heap.size w w' := by
  go_enter Tryd.func134, Tryd.ntmps134
  go_wp2_with fail
  refine (HO.o _).mono ?_
  rintro e w1 ⟨rfl, hb1⟩
  go_wp2_with fail
  refine (HS.o _).mono ?_
  rintro e w2 ⟨rfl, hb2⟩
  have hb' := below_trans hb1 hb2
  clear hb1 hb2
  go_wp2_with fail
  go_ret2
  exact ⟨ret_two (int_eq (by omega)) rfl, hb'⟩
set_option maxHeartbeats 400000 in
set_option maxRecDepth 1000000 in
theorem escape_bad2 (t : ByteArray) (w : World) (c : Nat) (n m : Int) (h6 : 6 ≤ t.size) (hs : t.size ≤ 1099511627776) (y1 : ((t[1]'(by omega)).toNat : Int) = (c : Int))
    (e1 : ((c : Int) == 34) = false) (e2 : ((c : Int) == 92) = false) (e3 : ((c : Int) == 47) = false) (f1 : ((c : Int) == 98) = false) (f2 : ((c : Int) == 102) = false) (f3 : ((c : Int) == 110) = false) (f4 : ((c : Int) == 114) = false) (f5 : ((c : Int) == 116) = false)
    (n1 : 55296 ≤ n) (n2 : n ≤ 56319) (m1 : 57343 < m) (m2 : m ≤ 65535)
    (HO : Hq (∀ W, Calls Tryd.prog 147 #[.string t] W fun e w' => e = .returned (.tuple #[.int .i32 n, .bool true]) ∧ Below W.heap.size W w'))
    (HS : Hq (∀ W, Calls Tryd.prog 147 #[.string (t.extract 6 t.size)] W fun e w' => e = .returned (.tuple #[.int .i32 m, .bool true]) ∧ Below W.heap.size W w')) :
    Calls Tryd.prog 134 #[.string t] w fun e w' => e = .returned (.tuple #[.int .i32 0, .int .i64 0]) ∧ Below w.heap.size w w' := by
  go_enter Tryd.func134, Tryd.ntmps134
  go_wp2_with fail
  refine (HO.o _).mono ?_
  rintro e w1 ⟨rfl, hb1⟩
  go_wp2_with fail
  refine (HS.o _).mono ?_
  rintro e w2 ⟨rfl, hb2⟩
  have hb' := below_trans hb1 hb2
  clear hb1 hb2
  go_wp2_with fail
  go_ret2
  exact ⟨ret_two (int_eq (by omega)) rfl, hb'⟩
end Go.Proofs.YtmomildkopainaaDoor
