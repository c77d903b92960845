/-
  Walks of the six laws of layer 2.
-/
import Derived.Test.YtokjolbjllfaaaaWkJ
namespace Go.Proofs.Ytokjolbjllfaaaa
open Go.RowKit

set_option maxHeartbeats 400000 in
theorem days_law (y m d : Int) (w : World) :
    Calls Try.prog 3 #[.int .i64 y, .int .i64 m, .int .i64 d] w fun e w' => e = .returned (.bool true) ∧ Below w.heap.size w w' := by
  have H1 := Lib.hid (fun w => of_any y m d w)
  have H2 := Lib.hid (fun w => ofR_any y m d w)
  generalize (ofP y m d).1 = x1 at H1 H2
  generalize (ofP y m d).2 = x2 at H1 H2
  go_enter Try.func3, Try.ntmps3
  go_wp2_with (first | (go_at_call 9; refine (wakes_any _).mono ?_; rintro e w1 ⟨rfl, hb1⟩) | (go_at_call 10; refine (H1.out _).mono ?_; rintro e w2 ⟨rfl, hb2⟩) | (go_at_call 11; refine (H2.out _).mono ?_; rintro e w3 ⟨rfl, rfl⟩))
  go_ret
  exact ⟨by simp, below_then hb1 hb2⟩

set_option maxHeartbeats 400000 in
theorem back_law (n : Int) (w : World) :
    Calls Try.prog 4 #[.int .i64 n] w fun e w' => e = .returned (.bool true) ∧ Below w.heap.size w w' := by
  by_cases h : -719162 ≤ n ∧ n ≤ 2932896
  · obtain ⟨y, m, d, v, hn⟩ := date_of n h.1 h.2
    have H1 := Lib.hid (fun w => split_yes y m d w v)
    have H2 := Lib.hid (fun w => splitR_yes y m d w v)
    have H3 := Lib.hid (fun w => of_any y m d w)
    rw [ofP_yes y m d v] at H3
    simp only [hn] at H1 H2 H3
    clear h hn v
    go_enter Try.func4, Try.ntmps4
    go_wp2_with (first | (go_at_call 9; refine (wakes_any _).mono ?_; rintro e w1 ⟨rfl, hb1⟩) | (go_at_call 12; refine (H1.out _).mono ?_; rintro e w2 ⟨rfl, hb2⟩) | (go_at_call 13; refine (H2.out _).mono ?_; rintro e w3 ⟨rfl, rfl⟩) | (go_at_call 10; refine (H3.out _).mono ?_; rintro e w4 ⟨rfl, hb4⟩))
    go_ret
    exact ⟨by simp, below_then (below_then hb1 hb2) hb4⟩
  · have H1 := Lib.hid (fun w => split_no n w h)
    have H2 := Lib.hid (fun w => splitR_no n w h)
    clear h
    go_enter Try.func4, Try.ntmps4
    go_wp2_with (first | (go_at_call 9; refine (wakes_any _).mono ?_; rintro e w1 ⟨rfl, hb1⟩) | (go_at_call 12; refine (H1.out _).mono ?_; rintro e w2 ⟨rfl, rfl⟩) | (go_at_call 13; refine (H2.out _).mono ?_; rintro e w3 ⟨rfl, rfl⟩))
    go_ret
    exact ⟨by simp, hb1⟩

set_option maxHeartbeats 400000 in
theorem adds_law (n k : Int) (w : World) (k0 : -9223372036854775808 ≤ k) (k1 : k ≤ 9223372036854775807) :
    Calls Try.prog 5 #[.int .i64 n, .int .i64 k] w fun e w' => e = .returned (.bool true) ∧ Below w.heap.size w w' := by
  have H : Hid (∃ a b : Int, (∀ w, Calls Try.prog 14 #[.int .i64 n, .int .i64 k] w fun e w' => e = .returned (.tuple #[.int .i64 a, .int .i64 b]) ∧ Below w.heap.size w w') ∧
      (∀ w, Calls Try.prog 15 #[.int .i64 n, .int .i64 k] w fun e w' => e = .returned (.tuple #[.int .i64 a, .int .i64 b]) ∧ w = w')) := by
    apply Lib.hid
    by_cases h : -719162 ≤ n ∧ n ≤ 2932896
    · obtain ⟨y, m, d, v, hn⟩ := date_of n h.1 h.2
      refine ⟨(addP y m d k).1, (addP y m d k).2, fun w => ?_, fun w => ?_⟩
      · have := add_yes y m d k w v k0 k1
        rw [hn] at this; exact this
      · have := addR_yes y m d k w v k0 k1
        rw [hn] at this; exact this
    · refine ⟨0, 6, fun w => (add_no n k w h).mono ?_, fun w => addR_no n k w h⟩
      rintro e w' ⟨rfl, rfl⟩
      exact ⟨rfl, Below.refl _ _⟩
  obtain ⟨a, b, h1, h2⟩ := H.out
  have H1 := Lib.hid h1
  have H2 := Lib.hid h2
  clear H h1 h2
  go_enter Try.func5, Try.ntmps5
  go_wp2_with (first | (go_at_call 9; refine (wakes_any _).mono ?_; rintro e w1 ⟨rfl, hb1⟩) | (go_at_call 14; refine (H1.out _).mono ?_; rintro e w2 ⟨rfl, hb2⟩) | (go_at_call 15; refine (H2.out _).mono ?_; rintro e w3 ⟨rfl, rfl⟩))
  go_ret
  exact ⟨by simp, below_then hb1 hb2⟩

theorem weekday_out (n : Int) (h : ¬ (-719162 ≤ n ∧ n ≤ 2932896)) : wdP n = (0, 6) := by unfold wdP; rw [if_neg h]
theorem weekday_is (n : Int) (h : -719162 ≤ n ∧ n ≤ 2932896) : wdP n = ((n + 719162) % 7 + 1, 0) := by unfold wdP; rw [if_pos h]

set_option maxHeartbeats 400000 in
theorem weeks_law (n : Int) (w : World) :
    Calls Try.prog 6 #[.int .i64 n] w fun e w' => e = .returned (.bool true) ∧ Below w.heap.size w w' := by
  have H1 := Lib.hid (fun w => weekday_any n w)
  have H2 := Lib.hid (fun w => weekdayR_any n w)
  by_cases h : -719162 ≤ n ∧ n ≤ 2932896
  · rw [weekday_is n h] at H1 H2
    by_cases hl : n = 2932896
    · subst hl
      clear h
      go_enter Try.func6, Try.ntmps6
      go_wp2_with (first | (go_at_call 9; refine (wakes_any _).mono ?_; rintro e w1 ⟨rfl, hb1⟩) | (go_at_call 16; refine (H1.out _).mono ?_; rintro e w2 ⟨rfl, rfl⟩) | (go_at_call 17; refine (H2.out _).mono ?_; rintro e w3 ⟨rfl, rfl⟩))
      go_ret
      exact ⟨by simp, hb1⟩
    · have hb : n < 2932896 := by omega
      have h0 := h.1
      have H3 := Lib.hid (fun w => weekday_any (n + 1) w)
      rw [weekday_is (n + 1) (by omega)] at H3
      have hl' : (n == 2932896) = false := by simpa using hl
      obtain ⟨x, hx⟩ : ∃ x, (n + 719162) % 7 + 1 = x := ⟨_, rfl⟩
      have e : (n + 1 + 719162) % 7 + 1 = x % 7 + 1 := by omega
      rw [e] at H3
      rw [hx] at H1 H2
      have x0 : 0 ≤ x := by omega
      have x1 : x ≤ 7 := by omega
      clear h hl hx e
      go_enter Try.func6, Try.ntmps6
      go_wp2_with (first | (go_at_call 9; refine (wakes_any _).mono ?_; rintro e w1 ⟨rfl, hb1⟩) | (go_at_call 16; (with_reducible refine (H1.out _).mono ?_); rintro e w2 ⟨rfl, rfl⟩) | (go_at_call 16; (with_reducible refine (H3.out _).mono ?_); rintro e w2 ⟨rfl, rfl⟩) | (go_at_call 17; refine (H2.out _).mono ?_; rintro e w3 ⟨rfl, rfl⟩))
      go_ret
      exact ⟨by simp, hb1⟩
  · rw [weekday_out n h] at H1 H2
    clear h
    go_enter Try.func6, Try.ntmps6
    go_wp2_with (first | (go_at_call 9; refine (wakes_any _).mono ?_; rintro e w1 ⟨rfl, hb1⟩) | (go_at_call 16; refine (H1.out _).mono ?_; rintro e w2 ⟨rfl, rfl⟩) | (go_at_call 17; refine (H2.out _).mono ?_; rintro e w3 ⟨rfl, rfl⟩))
    go_ret
    exact ⟨by simp, hb1⟩

end Go.Proofs.Ytokjolbjllfaaaa
