/-
  Walks: how long a stretch is, by the program.
-/
import Derived.Test.YtfcgmhkfehcdaaaWkE
import Derived.Test.YtfcgmhkfehcdaaaPlainD
import Derived.Laws.EntriesVeiled
namespace Go.Proofs.Ytfcgmhkfehcdaaa
open Go.RowKit

set_option maxHeartbeats 400000 in
theorem isStretch_any (a b : Int) (w : World) :
    Calls Try.prog 14 #[.int .i64 a, .int .i64 b] w fun e w' => e = .returned (.bool (decide (Stretch a b))) ∧ w = w' := by
  by_cases h0 : -719162 ≤ a
  · by_cases h1 : a ≤ b
    · by_cases h2 : b ≤ 2932896
      · rw [decide_eq_true ⟨h0, h1, h2⟩]
        go_enter Try.func14, Try.ntmps14
        go_wp2
        go_ret
        exact ⟨rfl, rfl⟩
      · rw [decide_eq_false (fun h => h2 h.2.2)]
        have h2' : decide (b ≤ 2932896) = false := by simpa using h2
        go_enter Try.func14, Try.ntmps14
        go_wp2
        go_ret
        exact ⟨rfl, rfl⟩
    · rw [decide_eq_false (fun h => h1 h.2.1)]
      have h1' : decide (a ≤ b) = false := by simpa using h1
      go_enter Try.func14, Try.ntmps14
      go_wp2
      go_ret
      exact ⟨rfl, rfl⟩
  · rw [decide_eq_false (fun h => h0 h.1)]
    have h0' : decide (-719162 ≤ a) = false := by simpa using h0
    go_enter Try.func14, Try.ntmps14
    go_wp2
    go_ret
    exact ⟨rfl, rfl⟩

theorem actual360_any (a b : Int) (w : World) (h : Stretch a b) :
    Calls Try.prog 22 #[.int .i64 a, .int .i64 b] w fun e w' => e = .returned (.tuple #[.int .i64 (b - a), .int .i64 360]) ∧ w = w' := by
  obtain ⟨h0, h1, h2⟩ := h
  go_enter Try.func22, Try.ntmps22
  go_wp2
  go_ret2
  exact ⟨rfl, rfl⟩
theorem actual365_any (a b : Int) (w : World) (h : Stretch a b) :
    Calls Try.prog 23 #[.int .i64 a, .int .i64 b] w fun e w' => e = .returned (.tuple #[.int .i64 (b - a), .int .i64 365]) ∧ w = w' := by
  obtain ⟨h0, h1, h2⟩ := h
  go_enter Try.func23, Try.ntmps23
  go_wp2
  go_ret2
  exact ⟨rfl, rfl⟩

theorem d31_yes : d31 31 = 30 := rfl
theorem d31_no {d : Int} (h : d ≠ 31) : d31 d = d := by unfold d31; rw [if_neg h]
theorem e31_yes {d : Int} (h : d31 d = 30) : e31 d 31 = 30 := by unfold e31; rw [if_pos ⟨rfl, h⟩]
theorem e31_no {d e : Int} (h : e ≠ 31) : e31 d e = e := by unfold e31; rw [if_neg (fun g => h g.1)]
theorem e31_stays {d e : Int} (h : d31 d ≠ 30) : e31 d e = e := by unfold e31; rw [if_neg (fun g => h g.2)]

set_option maxHeartbeats 1000000 in
theorem thirty360_any (u m d z n e : Int) (w : World) (v1 : Valid u m d) (v2 : Valid z n e) :
    Calls Try.prog 21 #[.int .i64 (num u m d), .int .i64 (num z n e)] w fun r w' => r = .returned (.tuple #[.int .i64 (thirtyP u m d z n e), .int .i64 360]) ∧ Below w.heap.size w w' := by
  have H1 := Lib.hid (fun w => split_yes u m d w v1)
  have H2 := Lib.hid (fun w => split_yes z n e w v2)
  have b1 := mlen_bd u m
  have b2 := mlen_bd z n
  obtain ⟨p1, p2, p3, p4, p5, p6⟩ := v1
  obtain ⟨q1, q2, q3, q4, q5, q6⟩ := v2
  generalize num u m d = a at H1 ⊢
  generalize num z n e = b at H2 ⊢
  have p7 : d ≤ 31 := by omega
  have q7 : e ≤ 31 := by omega
  clear p6 q6 b1 b2
  unfold thirtyP
  by_cases hd : d = 31
  · subst hd
    by_cases he : e = 31
    · subst he
      rw [e31_yes d31_yes, d31_yes]
      go_enter Try.func21, Try.ntmps21
      go_wp2_with (first | (go_at_call 26; (with_reducible refine (H1.out _).mono ?_); rintro e w1 ⟨rfl, hb1⟩) | (go_at_call 26; (with_reducible refine (H2.out _).mono ?_); rintro e w2 ⟨rfl, hb2⟩))
      go_ret2
      exact ⟨ret_two (by omega) rfl, below_then hb1 hb2⟩
    · rw [e31_no he, d31_yes]
      have he' : (e == 31) = false := by simpa using he
      clear he
      go_enter Try.func21, Try.ntmps21
      go_wp2_with (first | (go_at_call 26; (with_reducible refine (H1.out _).mono ?_); rintro e w1 ⟨rfl, hb1⟩) | (go_at_call 26; (with_reducible refine (H2.out _).mono ?_); rintro e w2 ⟨rfl, hb2⟩))
      go_ret2
      exact ⟨ret_two (by omega) rfl, below_then hb1 hb2⟩
  · have hd' : (d == 31) = false := by simpa using hd
    rw [d31_no hd]
    by_cases he : e = 31
    · subst he
      by_cases h0 : d = 30
      · subst h0
        rw [e31_yes rfl]
        clear hd
        go_enter Try.func21, Try.ntmps21
        go_wp2_with (first | (go_at_call 26; (with_reducible refine (H1.out _).mono ?_); rintro e w1 ⟨rfl, hb1⟩) | (go_at_call 26; (with_reducible refine (H2.out _).mono ?_); rintro e w2 ⟨rfl, hb2⟩))
        go_ret2
        exact ⟨ret_two (by omega) rfl, below_then hb1 hb2⟩
      · rw [e31_stays (by rw [d31_no hd]; exact h0)]
        have h0' : (d == 30) = false := by simpa using h0
        clear hd h0
        go_enter Try.func21, Try.ntmps21
        go_wp2_with (first | (go_at_call 26; (with_reducible refine (H1.out _).mono ?_); rintro e w1 ⟨rfl, hb1⟩) | (go_at_call 26; (with_reducible refine (H2.out _).mono ?_); rintro e w2 ⟨rfl, hb2⟩))
        go_ret2
        exact ⟨ret_two (by omega) rfl, below_then hb1 hb2⟩
    · rw [e31_no he]
      have he' : (e == 31) = false := by simpa using he
      clear hd he
      go_enter Try.func21, Try.ntmps21
      go_wp2_with (first | (go_at_call 26; (with_reducible refine (H1.out _).mono ?_); rintro e w1 ⟨rfl, hb1⟩) | (go_at_call 26; (with_reducible refine (H2.out _).mono ?_); rintro e w2 ⟨rfl, hb2⟩))
      go_ret2
      exact ⟨ret_two (by omega) rfl, below_then hb1 hb2⟩

end Go.Proofs.Ytfcgmhkfehcdaaa
