/-
  Walks of the small functions of amount: size, halves, signed, isMoney, Add, Sub.
-/
import Derived.Test.YtefkabkncmflpaaDoorProg
import Derived.Test.YtefkabkncmflpaaDoorPlain
import Derived.WalkKit
import Derived.WalkSpells
import Derived.WalkLawsBesides
import Derived.Handy
namespace Go.Proofs.YtefkabkncmflpaaDoor
open Go.RowKit

set_option maxHeartbeats 400000 in
theorem size_neg (a : Int) (w : World) (h0 : -9223372036854775808 ≤ a) (h1 : a < 0) :
    Calls Tryd.prog 31 #[.int .i64 a] w fun e w' => e = .returned (.int .u64 (-a)) ∧ w = w' := by
  go_enter Tryd.func31, Tryd.ntmps31
  go_wp2
  go_ret
  exact ⟨ret_int (neg_wrap a h0 h1), rfl⟩

set_option maxHeartbeats 400000 in
theorem size_pos (a : Int) (w : World) (h0 : 0 ≤ a) (h1 : a ≤ 9223372036854775807) :
    Calls Tryd.prog 31 #[.int .i64 a] w fun e w' => e = .returned (.int .u64 a) ∧ w = w' := by
  go_enter Tryd.func31, Tryd.ntmps31
  go_wp2
  go_ret
  exact ⟨rfl, rfl⟩

theorem size_any (a : Int) (w : World) (h0 : -9223372036854775808 ≤ a) (h1 : a ≤ 9223372036854775807) :
    Calls Tryd.prog 31 #[.int .i64 a] w fun e w' => e = .returned (.int .u64 a.natAbs) ∧ w = w' := by
  by_cases h : a < 0
  · rw [show ((a.natAbs : Nat) : Int) = -a by omega]; exact size_neg a w h0 h
  · rw [show ((a.natAbs : Nat) : Int) = a by omega]; exact size_pos a w (by omega) h1

set_option maxHeartbeats 400000 in
theorem halves_any (a : Int) (w : World) (_h0 : 0 ≤ a) (_h1 : a < 18446744073709551616) :
    Calls Tryd.prog 52 #[.int .u64 a] w fun e w' => e = .returned (.tuple #[.int .u64 (a / 4294967296), .int .u64 (a % 4294967296)]) ∧ w = w' := by
  go_enter Tryd.func52, Tryd.ntmps52
  go_wp2
  go_ret2
  exact ⟨rfl, rfl⟩

set_option maxHeartbeats 400000 in
theorem signed_neg (q : Int) (w : World) (h0 : 0 ≤ q) (h1 : q ≤ 9223372036854775808) :
    Calls Tryd.prog 47 #[.int .u64 q, .bool true] w fun e w' => e = .returned (.tuple #[.int .i64 (-q), .int .i64 0]) ∧ w = w' := by
  go_enter Tryd.func47, Tryd.ntmps47
  go_wp2
  go_ret2
  exact ⟨ret_two (back_neg q h0 h1) rfl, rfl⟩

set_option maxHeartbeats 400000 in
theorem signed_neg_over (q : Int) (w : World) (h0 : 9223372036854775808 < q) (h1 : q < 18446744073709551616) :
    Calls Tryd.prog 47 #[.int .u64 q, .bool true] w fun e w' => e = .returned (.tuple #[.int .i64 0, .int .i64 4]) ∧ w = w' := by
  go_enter Tryd.func47, Tryd.ntmps47
  go_wp2
  go_ret2
  exact ⟨rfl, rfl⟩

set_option maxHeartbeats 400000 in
theorem signed_pos (q : Int) (w : World) (h0 : 0 ≤ q) (h1 : q ≤ 9223372036854775807) :
    Calls Tryd.prog 47 #[.int .u64 q, .bool false] w fun e w' => e = .returned (.tuple #[.int .i64 q, .int .i64 0]) ∧ w = w' := by
  go_enter Tryd.func47, Tryd.ntmps47
  go_wp2
  go_ret2
  exact ⟨rfl, rfl⟩

set_option maxHeartbeats 400000 in
theorem signed_pos_over (q : Int) (w : World) (h0 : 9223372036854775807 < q) (h1 : q < 18446744073709551616) :
    Calls Tryd.prog 47 #[.int .u64 q, .bool false] w fun e w' => e = .returned (.tuple #[.int .i64 0, .int .i64 4]) ∧ w = w' := by
  go_enter Tryd.func47, Tryd.ntmps47
  go_wp2
  go_ret2
  exact ⟨rfl, rfl⟩

set_option maxHeartbeats 400000 in
theorem isMoney_yes (v : Int) (w : World) (h0 : -1000000000000000 ≤ v) (h1 : v ≤ 1000000000000000) :
    Calls Tryd.prog 36 #[.int .i64 v] w fun e w' => e = .returned (.bool true) ∧ w = w' := by
  go_enter Tryd.func36, Tryd.ntmps36
  go_wp2
  go_ret
  exact ⟨rfl, rfl⟩

set_option maxHeartbeats 400000 in
theorem isMoney_no (v : Int) (w : World) (h : v < -1000000000000000 ∨ 1000000000000000 < v) :
    Calls Tryd.prog 36 #[.int .i64 v] w fun e w' => e = .returned (.bool false) ∧ w = w' := by
  rcases h with h | h
  · go_enter Tryd.func36, Tryd.ntmps36
    go_wp2
    go_ret
    exact ⟨rfl, rfl⟩
  · have h' : -1000000000000000 ≤ v := by omega
    have h2 : decide (v ≤ 1000000000000000) = false := by simp; omega
    go_enter Tryd.func36, Tryd.ntmps36
    go_wp2
    go_ret
    exact ⟨rfl, rfl⟩

set_option maxHeartbeats 400000 in
theorem add_any (a b : Int) (w : World) (ha : -9223372036854775808 ≤ a ∧ a ≤ 9223372036854775807) (hb : -9223372036854775808 ≤ b ∧ b ≤ 9223372036854775807) :
    Calls Tryd.prog 12 #[.int .i64 a, .int .i64 b] w fun e w' => e = .returned (addA a b) ∧ w = w' := by
  go_enter Tryd.func12, Tryd.ntmps12
  go_wp2
  · have h := addA_over a b ha hb (by assumption)
    go_ret2
    exact ⟨by rw [h]; rfl, rfl⟩
  · have h := addA_in a b ha hb (by assumption)
    go_ret2
    exact ⟨by rw [h]; rfl, rfl⟩

set_option maxHeartbeats 400000 in
theorem sub_any (a b : Int) (w : World) (ha : -9223372036854775808 ≤ a ∧ a ≤ 9223372036854775807) (hb : -9223372036854775808 ≤ b ∧ b ≤ 9223372036854775807) :
    Calls Tryd.prog 13 #[.int .i64 a, .int .i64 b] w fun e w' => e = .returned (subA a b) ∧ w = w' := by
  go_enter Tryd.func13, Tryd.ntmps13
  go_wp2
  · have h := subA_over a b ha hb (by assumption)
    go_ret2
    exact ⟨by rw [h]; rfl, rfl⟩
  · have h := subA_in a b ha hb (by assumption)
    go_ret2
    exact ⟨by rw [h]; rfl, rfl⟩

end Go.Proofs.YtefkabkncmflpaaDoor
