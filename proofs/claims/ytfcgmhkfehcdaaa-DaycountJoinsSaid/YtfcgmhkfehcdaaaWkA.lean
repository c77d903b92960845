/-
  Walks: years and months by whole numbers, the program's and the document's.
-/
import Derived.Test.YtfcgmhkfehcdaaaProg
import Derived.Test.YtfcgmhkfehcdaaaPlain
import Derived.WalkKit
import Derived.WalkSpells
import Derived.WalkLawsBesides
import Derived.Handy
import Derived.Lib.Hide
import Derived.Deep.OwnRows
namespace Go.Proofs.Ytfcgmhkfehcdaaa
open Go.RowKit

theorem ret_int {k : IntKind} {a b : Int} (h : a = b) : Ending.returned (.int k a) = .returned (.int k b) := by rw [h]
theorem ret_two {k l : IntKind} {a b c d : Int} (h : a = b) (g : c = d) : Ending.returned (.tuple #[.int k a, .int l c]) = .returned (.tuple #[.int k b, .int l d]) := by rw [h, g]

theorem lp_no4 (y : Int) (h : y % 4 ≠ 0) : lp y = 0 := by unfold lp; rw [if_neg (by omega)]
theorem lp_yes (y : Int) (h : y % 4 = 0) (g : y % 100 ≠ 0) : lp y = 1 := by unfold lp; rw [if_pos (by omega)]
theorem lp_400 (y : Int) (h : y % 4 = 0) (g : y % 400 = 0) : lp y = 1 := by unfold lp; rw [if_pos (by omega)]
theorem lp_no (y : Int) (h : y % 100 = 0) (g : y % 400 ≠ 0) : lp y = 0 := by unfold lp; rw [if_neg (by omega)]

/-- Four kinds of years. -/
theorem kinds (y : Int) : (y % 4 ≠ 0 ∧ lp y = 0) ∨ (y % 4 = 0 ∧ y % 100 ≠ 0 ∧ lp y = 1) ∨ (y % 4 = 0 ∧ y % 100 = 0 ∧ y % 400 ≠ 0 ∧ lp y = 0) ∨ (y % 4 = 0 ∧ y % 100 = 0 ∧ y % 400 = 0 ∧ lp y = 1) := by
  unfold lp; split <;> omega

set_option maxHeartbeats 400000 in
theorem isLeap_any (y : Int) (w : World) (h0 : 0 ≤ y) (h1 : y ≤ 9223372036854775807) :
    Calls Try.prog 36 #[.int .i64 y] w fun e w' => e = .returned (.bool (lp y == 1)) ∧ w = w' := by
  rcases kinds y with ⟨a, L⟩ | ⟨a, b, L⟩ | ⟨a, b, c, L⟩ | ⟨a, b, c, L⟩ <;> rw [L] <;> clear L
  · have a' : (y % 4 == 0) = false := by simpa using a
    go_enter Try.func36, Try.ntmps36
    go_wp2
    go_ret
    exact ⟨rfl, rfl⟩
  · have b' : (y % 100 != 0) = true := by simpa using b
    have a' : (y % 4 == 0) = true := by simpa using a
    clear a b
    go_enter Try.func36, Try.ntmps36
    go_wp2
    go_ret
    exact ⟨rfl, rfl⟩
  · have b' : (y % 100 != 0) = false := by simpa using b
    have a' : (y % 4 == 0) = true := by simpa using a
    have c' : (y % 400 == 0) = false := by simpa using c
    clear a b c
    go_enter Try.func36, Try.ntmps36
    go_wp2
    go_ret
    exact ⟨rfl, rfl⟩
  · have b' : (y % 100 != 0) = false := by simpa using b
    have a' : (y % 4 == 0) = true := by simpa using a
    have c' : (y % 400 == 0) = true := by simpa using c
    clear a b c
    go_enter Try.func36, Try.ntmps36
    go_wp2
    go_ret
    exact ⟨rfl, rfl⟩

set_option maxHeartbeats 400000 in
theorem leap_any (y : Int) (w : World) (h0 : 0 ≤ y) (h1 : y ≤ 9223372036854775807) :
    Calls Try.prog 32 #[.int .i64 y] w fun e w' => e = .returned (.bool (lp y == 1)) ∧ w = w' := by
  rcases kinds y with ⟨a, L⟩ | ⟨a, b, L⟩ | ⟨a, b, c, L⟩ | ⟨a, b, c, L⟩ <;> rw [L] <;> clear L
  · have a' : (y % 4 == 0) = false := by simpa using a
    have c' : (y % 400 == 0) = false := by simp; omega
    clear a
    go_enter Try.func32, Try.ntmps32
    go_wp2
    go_ret
    exact ⟨rfl, rfl⟩
  · have b' : (y % 100 != 0) = true := by simpa using b
    have a' : (y % 4 == 0) = true := by simpa using a
    clear a b
    go_enter Try.func32, Try.ntmps32
    go_wp2
    go_ret
    exact ⟨rfl, rfl⟩
  · have b' : (y % 100 != 0) = false := by simpa using b
    have a' : (y % 4 == 0) = true := by simpa using a
    have c' : (y % 400 == 0) = false := by simpa using c
    clear a b c
    go_enter Try.func32, Try.ntmps32
    go_wp2
    go_ret
    exact ⟨rfl, rfl⟩
  · have b' : (y % 100 != 0) = false := by simpa using b
    have a' : (y % 4 == 0) = true := by simpa using a
    have c' : (y % 400 == 0) = true := by simpa using c
    clear a b c
    go_enter Try.func32, Try.ntmps32
    go_wp2
    go_ret
    exact ⟨rfl, rfl⟩

set_option maxHeartbeats 400000 in
theorem daysAhead_any (y : Int) (w : World) (h0 : 1 ≤ y) (h1 : y ≤ 20000) :
    Calls Try.prog 35 #[.int .i64 y] w fun e w' => e = .returned (.int .i64 (ahead y)) ∧ w = w' := by
  go_enter Try.func35, Try.ntmps35
  go_wp2
  go_ret
  exact ⟨rfl, rfl⟩

set_option maxHeartbeats 400000 in
theorem aheadR_any (y : Int) (w : World) (h0 : 1 ≤ y) (h1 : y ≤ 20000) :
    Calls Try.prog 24 #[.int .i64 y] w fun e w' => e = .returned (.int .i64 (ahead y)) ∧ w = w' := by
  go_enter Try.func24, Try.ntmps24
  go_wp2
  go_ret
  exact ⟨rfl, rfl⟩

set_option maxHeartbeats 400000 in
theorem isDay_any (n : Int) (w : World) :
    Calls Try.prog 33 #[.int .i64 n] w fun e w' => e = .returned (.bool (decide (-719162 ≤ n ∧ n ≤ 2932896))) ∧ w = w' := by
  by_cases h0 : -719162 ≤ n
  · by_cases h1 : n ≤ 2932896
    · rw [decide_eq_true ⟨h0, h1⟩]
      go_enter Try.func33, Try.ntmps33
      go_wp2
      go_ret
      exact ⟨rfl, rfl⟩
    · rw [decide_eq_false (fun h => h1 h.2)]
      have h1' : decide (n ≤ 2932896) = false := by simpa using h1
      go_enter Try.func33, Try.ntmps33
      go_wp2
      go_ret
      exact ⟨rfl, rfl⟩
  · rw [decide_eq_false (fun h => h0 h.1)]
    have h0' : decide (-719162 ≤ n) = false := by simpa using h0
    go_enter Try.func33, Try.ntmps33
    go_wp2
    go_ret
    exact ⟨rfl, rfl⟩

set_option maxHeartbeats 400000 in
theorem good_any (n : Int) (w : World) :
    Calls Try.prog 15 #[.int .i64 n] w fun e w' => e = .returned (.bool (decide (-719162 ≤ n ∧ n ≤ 2932896))) ∧ w = w' := by
  by_cases h0 : -719162 ≤ n
  · by_cases h1 : n ≤ 2932896
    · rw [decide_eq_true ⟨h0, h1⟩]
      go_enter Try.func15, Try.ntmps15
      go_wp2
      go_ret
      exact ⟨rfl, rfl⟩
    · rw [decide_eq_false (fun h => h1 h.2)]
      have h1' : decide (n ≤ 2932896) = false := by simpa using h1
      go_enter Try.func15, Try.ntmps15
      go_wp2
      go_ret
      exact ⟨rfl, rfl⟩
  · rw [decide_eq_false (fun h => h0 h.1)]
    have h0' : decide (-719162 ≤ n) = false := by simpa using h0
    go_enter Try.func15, Try.ntmps15
    go_wp2
    go_ret
    exact ⟨rfl, rfl⟩

set_option maxHeartbeats 1000000 in
theorem days_any (y m : Int) (w : World) (h0 : 0 ≤ y) (h1 : y ≤ 9223372036854775807) :
    Calls Try.prog 25 #[.int .i64 y, .int .i64 m] w fun e w' => e = .returned (.int .i64 (mlen y m)) ∧ w = w' := by
  by_cases h2 : m = 2
  · subst h2
    by_cases L : lp y = 1
    · have e : mlen y 2 = 29 := by simp [mlen, L]
      rw [e]
      have H := Lib.hid (fun w => leap_any y w h0 h1)
      rw [L] at H
      clear L e
      go_enter Try.func25, Try.ntmps25
      go_wp2_with (go_at_call 32; refine (H.out _).mono ?_; rintro e w' ⟨rfl, rfl⟩)
      go_ret
      exact ⟨rfl, rfl⟩
    · have := lp_01 y
      have L : lp y = 0 := by omega
      have e : mlen y 2 = 28 := by simp [mlen, L]
      rw [e]
      have H := Lib.hid (fun w => leap_any y w h0 h1)
      rw [L] at H
      clear L e
      go_enter Try.func25, Try.ntmps25
      go_wp2_with (go_at_call 32; refine (H.out _).mono ?_; rintro e w' ⟨rfl, rfl⟩)
      go_ret
      exact ⟨rfl, rfl⟩
  · have h2' : (m == 2) = false := by simpa using h2
    by_cases h4 : m = 4
    · subst h4
      rw [show mlen y 4 = 30 from rfl]
      go_enter Try.func25, Try.ntmps25
      go_wp2
      go_ret
      exact ⟨rfl, rfl⟩
    · have h4' : (m == 4) = false := by simpa using h4
      by_cases h6 : m = 6
      · subst h6
        rw [show mlen y 6 = 30 from rfl]
        go_enter Try.func25, Try.ntmps25
        go_wp2
        go_ret
        exact ⟨rfl, rfl⟩
      · have h6' : (m == 6) = false := by simpa using h6
        by_cases h9 : m = 9
        · subst h9
          rw [show mlen y 9 = 30 from rfl]
          go_enter Try.func25, Try.ntmps25
          go_wp2
          go_ret
          exact ⟨rfl, rfl⟩
        · have h9' : (m == 9) = false := by simpa using h9
          by_cases h11 : m = 11
          · subst h11
            rw [show mlen y 11 = 30 from rfl]
            go_enter Try.func25, Try.ntmps25
            go_wp2
            go_ret
            exact ⟨rfl, rfl⟩
          · have h11' : (m == 11) = false := by simpa using h11
            have e : mlen y m = 31 := by unfold mlen; rw [if_neg h2, if_neg (by omega)]
            rw [e]
            clear h2 h4 h6 h9 h11 e
            go_enter Try.func25, Try.ntmps25
            go_wp2
            go_ret
            exact ⟨rfl, rfl⟩

set_option maxHeartbeats 400000 in
theorem yearAfter_any (n : Int) (w : World) (h0 : 0 ≤ n) (h1 : n ≤ 3652058) :
    Calls Try.prog 34 #[.int .i64 n] w fun e w' => ∃ y : Int, e = .returned (.int .i64 y) ∧ ahead y ≤ n ∧ n < ahead (y + 1) ∧ w = w' := by
  obtain ⟨q, hq⟩ : ∃ q, n * 400 / 146097 = q := ⟨_, rfl⟩
  have g := guess_bd n q h0 h1 hq.symm
  have GL := Lib.hid (guess_lo n q h0 hq.symm)
  have GH := Lib.hid (guess_hi n q h0 hq.symm)
  obtain ⟨g0, g1⟩ := g
  have HQ := Lib.hid hq
  have e1 : IntKind.i64.wrap (n * 400) = n * 400 := IntWalk.i64_in _ (by omega)
  by_cases hc : ahead (q + 1 + 1) ≤ n
  all_goals
    go_enter Try.func34, Try.ntmps34
    go_wp2_with (go_at_call 35; refine (daysAhead_any _ _ (by omega) (by omega)).mono ?_; rintro e w' ⟨rfl, rfl⟩)
    go_ret
    first | exact ⟨q + 1 + 1, rfl, hc, by rw [show q + 1 + 1 + 1 = q + 3 by omega]; exact GH.out, rfl⟩ | exact ⟨q + 1, rfl, GL.out, by omega, rfl⟩

end Go.Proofs.Ytfcgmhkfehcdaaa
