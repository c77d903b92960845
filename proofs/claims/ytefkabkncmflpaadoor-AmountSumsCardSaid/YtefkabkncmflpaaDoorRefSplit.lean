/-
  Walks: the document's own shares: refused ones; how lists are laid anew and compared.
-/
import Derived.Test.YtefkabkncmflpaaDoorWkI
import Derived.Test.YtefkabkncmflpaaDoorWkM
import Derived.Test.YtefkabkncmflpaaDoorWkZb
import Derived.Test.YtefkabkncmflpaaDoorWkE
namespace Go.Proofs.YtefkabkncmflpaaDoor
open Go.RowKit Go.Sort Go.Shelf

/-- May the weights be shared by? -/
def WtOk (wt : Nat → Int) (n : Nat) : Prop := ∀ i, i < n → 0 ≤ wt i ∧ wt i ≤ 1000000000

set_option maxHeartbeats 400000 in
theorem refSplit_long (T : Int) (a : Option Addr) (n cw : Nat) (w : World) (hn : n = 0 ∨ 1024 < n) (hn2 : n ≤ 9223372036854775807) :
    Calls Tryd.prog 22 #[.int .i64 T, .slice a n cw] w fun e w' => e = .returned (.tuple #[.slice none 0 0, .int .i64 3]) ∧ w = w' := by
  rcases hn with h | h
  · subst h
    go_enter Tryd.func22, Tryd.ntmps22
    go_wp2
    go_ret2
    exact ⟨rfl, rfl⟩
  · have h0 : ((n : Int) == 0) = false := by simp; omega
    have h1 : (1024 : Int) < n := by omega
    go_enter Tryd.func22, Tryd.ntmps22
    go_wp2
    go_ret2
    exact ⟨rfl, rfl⟩

theorem sum_bd {wt : Nat → Int} {n : Nat} (h : WtOk wt n) (k : Nat) (hk : k ≤ n) (hn : n ≤ 1024) : 0 ≤ sumTo wt k ∧ sumTo wt k ≤ 1024000000000 := by
  have h1 := sumTo_nonneg (f := wt) (n := k) fun i hi => (h i (by omega)).1
  have h2 := sumTo_le (f := wt) (n := k) 1000000000 fun i hi => (h i (by omega)).2
  refine ⟨h1, ?_⟩
  have : (k : Int) * 1000000000 ≤ 1024 * 1000000000 := Int.mul_le_mul_of_nonneg_right (by omega) (by omega)
  omega

set_option maxRecDepth 100000 in
set_option maxHeartbeats 1000000 in
theorem refSplit_weights (T : Int) (wt : Nat → Int) (ad : Addr) (n cw j : Nat) (w : World) (hn0 : 0 < n) (hn : n ≤ 1024) (hc : ∀ i, i < n → w.cell? (ad.add i) = some (.int .i64 (wt i))) (hj : j < n) (hok : WtOk wt j) (hb : wt j < 0 ∨ 1000000000 < wt j) :
    Calls Tryd.prog 22 #[.int .i64 T, .slice (some ad) n cw] w fun e w' => e = .returned (.tuple #[.slice none 0 0, .int .i64 2]) ∧ w = w' := by
  have h0 : ((n : Int) == 0) = false := by simp; omega
  have h1 : (n : Int) ≤ 1024 := by omega
  have HC := Lib.hid hc
  have HB := Lib.hid hb
  have HS := Lib.hid (fun k (hk : k ≤ j) => sum_bd hok k hk (by omega))
  have HO := Lib.hid hok
  clear hc hb hok
  go_enter Tryd.func22, Tryd.ntmps22
  go_wp2
  go_loop [6, 29] (fun t6 t29 => ∃ k : Nat, k ≤ j ∧ t6 = .int .i64 (sumTo wt k) ∧ t29 = .int .i64 k) (fun _ t29 => n - (intOf t29).toNat)
  case atStart => exact ⟨0, by omega, rfl, rfl⟩
  case round =>
    obtain ⟨k, hk, rfl, rfl⟩ := hrel
    have ck := HC.out k (by omega)
    have hki : (k : Int) < n := by omega
    obtain ⟨s0, s1⟩ := HS.out k hk
    by_cases e : k = j
    · subst e
      rcases HB.out with b | b
      · generalize wt k = x at *
        go_wp2
        go_ret2
        exact ⟨rfl, rfl⟩
      · have b0 : decide (wt k < 0) = false := by simp; omega
        generalize wt k = x at *
        go_wp2
        go_ret2
        exact ⟨rfl, rfl⟩
    · obtain ⟨o0, o1⟩ := HO.out k (by omega)
      have S := Lib.hid (show sumTo wt (k + 1) = sumTo wt k + wt k from rfl)
      have b0 : decide (wt k < 0) = false := by simp; omega
      have b1 : decide (1000000000 < wt k) = false := by simp; omega
      generalize wt k = x at *
      generalize sumTo wt k = y at *
      go_wp2
      go_round
      case rel => exact ⟨k + 1, by omega, by rw [S.out], by go_num⟩
      case measure => simp [intOf]; omega

set_option maxRecDepth 100000 in
set_option maxHeartbeats 1000000 in
theorem refSplit_total (T : Int) (wt : Nat → Int) (ad : Addr) (n cw : Nat) (w : World) (hn0 : 0 < n) (hn : n ≤ 1024) (hc : ∀ i, i < n → w.cell? (ad.add i) = some (.int .i64 (wt i))) (hok : WtOk wt n) (hb : sumTo wt n = 0 ∨ T < -1000000000000000 ∨ 1000000000000000 < T) :
    Calls Tryd.prog 22 #[.int .i64 T, .slice (some ad) n cw] w fun e w' => e = .returned (.tuple #[.slice none 0 0, .int .i64 2]) ∧ w = w' := by
  have h0 : ((n : Int) == 0) = false := by simp; omega
  have h1 : (n : Int) ≤ 1024 := by omega
  have HC := Lib.hid hc
  have HB := Lib.hid hb
  have HS := Lib.hid (fun k (hk : k ≤ n) => sum_bd hok k hk (by omega))
  have HO := Lib.hid hok
  clear hc hb hok
  go_enter Tryd.func22, Tryd.ntmps22
  go_wp2
  go_loop [6, 29] (fun t6 t29 => ∃ k : Nat, k ≤ n ∧ t6 = .int .i64 (sumTo wt k) ∧ t29 = .int .i64 k) (fun _ t29 => n - (intOf t29).toNat)
  case atStart => exact ⟨0, by omega, rfl, rfl⟩
  case round =>
    obtain ⟨k, hk, rfl, rfl⟩ := hrel
    obtain ⟨s0, s1⟩ := HS.out k hk
    by_cases hlt : k < n
    · have ck := HC.out k hlt
      have hki : (k : Int) < n := by omega
      obtain ⟨o0, o1⟩ := HO.out k hlt
      have S := Lib.hid (show sumTo wt (k + 1) = sumTo wt k + wt k from rfl)
      have b0 : decide (wt k < 0) = false := by simp; omega
      have b1 : decide (1000000000 < wt k) = false := by simp; omega
      generalize wt k = x at *
      generalize sumTo wt k = y at *
      go_wp2
      go_round
      case rel => exact ⟨k + 1, by omega, by rw [S.out], by go_num⟩
      case measure => simp [intOf]; omega
    · obtain rfl : k = n := by omega
      rcases HB.out with b | b | b
      · have b' : (sumTo wt k == 0) = true := by simpa using b
        clear b
        generalize sumTo wt k = y at *
        go_wp2
        go_ret2
        exact ⟨rfl, rfl⟩
      · by_cases z : sumTo wt k = 0
        · have b' : (sumTo wt k == 0) = true := by simpa using z
          clear z
          generalize sumTo wt k = y at *
          go_wp2
          go_ret2
          exact ⟨rfl, rfl⟩
        · have b' : (sumTo wt k == 0) = false := by simpa using z
          clear z
          generalize sumTo wt k = y at *
          go_wp2
          go_ret2
          exact ⟨rfl, rfl⟩
      · have bd : decide (T < -1000000000000000) = false := by simp; omega
        by_cases z : sumTo wt k = 0
        · have b' : (sumTo wt k == 0) = true := by simpa using z
          clear z
          generalize sumTo wt k = y at *
          go_wp2
          go_ret2
          exact ⟨rfl, rfl⟩
        · have b' : (sumTo wt k == 0) = false := by simpa using z
          clear z
          generalize sumTo wt k = y at *
          go_wp2
          go_ret2
          exact ⟨rfl, rfl⟩

end Go.Proofs.YtefkabkncmflpaaDoor
