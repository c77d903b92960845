/-
  Walks: weekdays; months later and earlier.
-/
import Derived.Test.YtfcgmhkfehcdaaaWkD
namespace Go.Proofs.Ytfcgmhkfehcdaaa
open Go.RowKit

theorem below_then {w w1 w2 : World} (h : Below w.heap.size w w1) (k : Below w1.heap.size w1 w2) : Below w.heap.size w w2 := h.trans (k.mono h.size)

theorem lens_at (y r : Int) (h0 : 0 ≤ r) (h1 : r < 12) (w : World) : (Instr.index 55 (.agg #[.int .i64 31, .int .i64 (28 + lp y), .int .i64 31, .int .i64 30, .int .i64 31, .int .i64 30, .int .i64 31, .int .i64 31, .int .i64 30, .int .i64 31, .int .i64 30, .int .i64 31]) (.int .i64 r)).run Try.prog w = .ok (.int .i64 (mlen y (r + 1))) w := by
  have : r = 0 ∨ r = 1 ∨ r = 2 ∨ r = 3 ∨ r = 4 ∨ r = 5 ∨ r = 6 ∨ r = 7 ∨ r = 8 ∨ r = 9 ∨ r = 10 ∨ r = 11 := by omega
  rcases this with rfl | rfl | rfl | rfl | rfl | rfl | rfl | rfl | rfl | rfl | rfl | rfl <;> clear h0 h1 <;> show _ = _ <;> kernel_rfl

theorem add_no (n k : Int) (w : World) (h : ¬ (-719162 ≤ n ∧ n ≤ 2932896)) :
    Calls Try.prog 17 #[.int .i64 n, .int .i64 k] w fun e w' => e = .returned (.tuple #[.int .i64 0, .int .i64 6]) ∧ w = w' := by
  have H := Lib.hid (fun w => split_no n w h)
  clear h
  go_enter Try.func17, Try.ntmps17
  go_wp2_with (go_at_call 26; refine (H.out _).mono ?_; rintro e w' ⟨rfl, rfl⟩)
  go_ret2
  exact ⟨rfl, rfl⟩

theorem addR_no (n k : Int) (w : World) (h : ¬ (-719162 ≤ n ∧ n ≤ 2932896)) :
    Calls Try.prog 18 #[.int .i64 n, .int .i64 k] w fun e w' => e = .returned (.tuple #[.int .i64 0, .int .i64 6]) ∧ w = w' := by
  have H := Lib.hid (fun w => splitR_no n w h)
  clear h
  go_enter Try.func18, Try.ntmps18
  go_wp2_with (go_at_call 16; refine (H.out _).mono ?_; rintro e w' ⟨rfl, rfl⟩)
  go_ret2
  exact ⟨rfl, rfl⟩

set_option maxRecDepth 100000 in
set_option maxHeartbeats 400000 in
theorem add_yes (y m d k : Int) (w : World) (v : Valid y m d) (k0 : -9223372036854775808 ≤ k) (k1 : k ≤ 9223372036854775807) :
    Calls Try.prog 17 #[.int .i64 (num y m d), .int .i64 k] w fun e w' => e = .returned (.tuple #[.int .i64 (addP y m d k).1, .int .i64 (addP y m d k).2]) ∧ Below w.heap.size w w' := by
  have H := Lib.hid (fun w => split_yes y m d w v)
  have V := Lib.hid v
  obtain ⟨v1, v2, v3, v4, v5, v6⟩ := v
  generalize num y m d = n at H ⊢
  obtain ⟨c, hc⟩ : ∃ c, 12 * (y - 1) + m - 1 + k = c := ⟨_, rfl⟩
  by_cases c0 : c < 0
  · rw [addP_low y m d k (by omega)]
    clear v6
    go_enter Try.func17, Try.ntmps17
    go_wp2_with (go_at_call 26; refine (H.out _).mono ?_; rintro e w1 ⟨rfl, hb1⟩)
    go_ret2
    exact ⟨rfl, hb1⟩
  · by_cases c1 : c ≤ 9223372036854775807
    · have A := Lib.hid (addP_of y m d k c V.out hc.symm (by omega))
      have AT := Lib.hid (fun w => lens_at (c / 12 + 1) (c % 12) (by omega) (by omega) w)
      have OF := Lib.hid (fun w => of_any (c / 12 + 1) (c % 12 + 1) (min d (mlen (c / 12 + 1) (c % 12 + 1))) w)
      rw [A.out] at OF
      clear v6 A
      by_cases hm : mlen (c / 12 + 1) (c % 12 + 1) < d
      · rw [show min d (mlen (c / 12 + 1) (c % 12 + 1)) = mlen (c / 12 + 1) (c % 12 + 1) by omega] at OF
        go_enter Try.func17, Try.ntmps17
        go_wp2_with (first | (go_at_call 26; refine (H.out _).mono ?_; rintro e w1 ⟨rfl, hb1⟩) | (go_at_call 28; refine (monthLengths_any _ _ (by omega) (by omega)).mono ?_; unfold lens; rintro e w2 ⟨rfl, hb2⟩; have at2 := AT.out w2) | (go_at_call 27; refine (OF.out _).mono ?_; rintro e w3 ⟨rfl, hb3⟩))
        go_ret2
        exact ⟨rfl, below_then (below_then hb1 hb2) hb3⟩
      · rw [show min d (mlen (c / 12 + 1) (c % 12 + 1)) = d by omega] at OF
        go_enter Try.func17, Try.ntmps17
        go_wp2_with (first | (go_at_call 26; refine (H.out _).mono ?_; rintro e w1 ⟨rfl, hb1⟩) | (go_at_call 28; refine (monthLengths_any _ _ (by omega) (by omega)).mono ?_; unfold lens; rintro e w2 ⟨rfl, hb2⟩; have at2 := AT.out w2) | (go_at_call 27; refine (OF.out _).mono ?_; rintro e w3 ⟨rfl, hb3⟩))
        go_ret2
        exact ⟨rfl, below_then (below_then hb1 hb2) hb3⟩
    · rw [addP_high y m d k (by omega)]
      have e1 : wrap64 (12 * (y - 1) + m - 1 + k) = c - 18446744073709551616 := by unfold wrap64; omega
      have c2 : c < 18446744073709551616 := by omega
      clear v6 hc
      go_enter Try.func17, Try.ntmps17
      go_wp2_with (go_at_call 26; refine (H.out _).mono ?_; rintro e w1 ⟨rfl, hb1⟩)
      go_ret2
      exact ⟨rfl, hb1⟩

set_option maxRecDepth 100000 in
set_option maxHeartbeats 400000 in
theorem addR_yes (y m d k : Int) (w : World) (v : Valid y m d) (k0 : -9223372036854775808 ≤ k) (k1 : k ≤ 9223372036854775807) :
    Calls Try.prog 18 #[.int .i64 (num y m d), .int .i64 k] w fun e w' => e = .returned (.tuple #[.int .i64 (addP y m d k).1, .int .i64 (addP y m d k).2]) ∧ w = w' := by
  have H := Lib.hid (fun w => splitR_yes y m d w v)
  have V := Lib.hid v
  obtain ⟨v1, v2, v3, v4, v5, v6⟩ := v
  generalize num y m d = n at H ⊢
  by_cases a : k < -200000
  · rw [addP_low y m d k (by omega)]
    clear v6
    go_enter Try.func18, Try.ntmps18
    go_wp2_with (go_at_call 16; refine (H.out _).mono ?_; rintro e w1 ⟨rfl, rfl⟩)
    go_ret2
    exact ⟨rfl, rfl⟩
  · have a' : decide (k < -200000) = false := by simpa using a
    by_cases b : 200000 < k
    · rw [addP_high y m d k (by omega)]
      clear v6
      go_enter Try.func18, Try.ntmps18
      go_wp2_with (go_at_call 16; refine (H.out _).mono ?_; rintro e w1 ⟨rfl, rfl⟩)
      go_ret2
      exact ⟨rfl, rfl⟩
    · have b' : decide (200000 < k) = false := by simpa using b
      obtain ⟨c, hc⟩ : ∃ c, 12 * y + m - 1 + k = c := ⟨_, rfl⟩
      by_cases c0 : c < 12
      · rw [addP_low y m d k (by omega)]
        clear v6
        go_enter Try.func18, Try.ntmps18
        go_wp2_with (go_at_call 16; refine (H.out _).mono ?_; rintro e w1 ⟨rfl, rfl⟩)
        go_ret2
        exact ⟨rfl, rfl⟩
      · by_cases c1 : 9999 < c / 12
        · rw [addP_high y m d k (by omega)]
          clear v6
          go_enter Try.func18, Try.ntmps18
          go_wp2_with (go_at_call 16; refine (H.out _).mono ?_; rintro e w1 ⟨rfl, rfl⟩)
          go_ret2
          exact ⟨rfl, rfl⟩
        · have A := addP_of y m d k (c - 12) V.out (by omega) (by omega)
          rw [show (c - 12) / 12 + 1 = c / 12 by omega, show (c - 12) % 12 = c % 12 by omega] at A
          have OF := Lib.hid (fun w => ofR_any (c / 12) (c % 12 + 1) (min d (mlen (c / 12) (c % 12 + 1))) w)
          rw [A] at OF
          clear v6 A
          by_cases hm : mlen (c / 12) (c % 12 + 1) < d
          · rw [show min d (mlen (c / 12) (c % 12 + 1)) = mlen (c / 12) (c % 12 + 1) by omega] at OF
            go_enter Try.func18, Try.ntmps18
            go_wp2_with (first | (go_at_call 16; refine (H.out _).mono ?_; rintro e w1 ⟨rfl, rfl⟩) | (go_at_call 25; refine (days_any _ _ _ (by omega) (by omega)).mono ?_; rintro e w2 ⟨rfl, rfl⟩) | (go_at_call 29; refine (OF.out _).mono ?_; rintro e w3 ⟨rfl, rfl⟩))
            go_ret2
            exact ⟨rfl, rfl⟩
          · rw [show min d (mlen (c / 12) (c % 12 + 1)) = d by omega] at OF
            go_enter Try.func18, Try.ntmps18
            go_wp2_with (first | (go_at_call 16; refine (H.out _).mono ?_; rintro e w1 ⟨rfl, rfl⟩) | (go_at_call 25; refine (days_any _ _ _ (by omega) (by omega)).mono ?_; rintro e w2 ⟨rfl, rfl⟩) | (go_at_call 29; refine (OF.out _).mono ?_; rintro e w3 ⟨rfl, rfl⟩))
            go_ret2
            exact ⟨rfl, rfl⟩

end Go.Proofs.Ytfcgmhkfehcdaaa
