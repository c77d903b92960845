/-
  Walks: how long a stretch is, by the document.
-/
import Derived.Test.YtfcgmhkfehcdaaaWkF
namespace Go.Proofs.Ytfcgmhkfehcdaaa
open Go.RowKit

theorem stretch_good {a b : Int} (h : Stretch a b) : decide (-719162 ≤ a ∧ a ≤ 2932896) = true ∧ decide (-719162 ≤ b ∧ b ≤ 2932896) = true := by
  unfold Stretch at h
  exact ⟨decide_eq_true (by omega), decide_eq_true (by omega)⟩

set_option maxHeartbeats 400000 in
theorem countR_range (c a b : Int) (w : World) (h : ¬ (1 ≤ c ∧ c ≤ 3)) :
    Calls Try.prog 8 #[.int .i64 c, .int .i64 a, .int .i64 b] w fun e w' => e = .returned (.tuple #[.int .i64 0, .int .i64 0, .int .i64 2]) ∧ w = w' := by
  by_cases h0 : c < 1
  · clear h
    go_enter Try.func8, Try.ntmps8
    go_wp2
    go_ret3
    exact ⟨rfl, rfl⟩
  · have h0' : decide (c < 1) = false := by simpa using h0
    have h1 : 3 < c := by omega
    clear h
    go_enter Try.func8, Try.ntmps8
    go_wp2
    go_ret3
    exact ⟨rfl, rfl⟩

set_option maxHeartbeats 1000000 in
theorem countR_date (c a b : Int) (w : World) (h : 1 ≤ c ∧ c ≤ 3) (s : ¬ Stretch a b) :
    Calls Try.prog 8 #[.int .i64 c, .int .i64 a, .int .i64 b] w fun e w' => e = .returned (.tuple #[.int .i64 0, .int .i64 0, .int .i64 6]) ∧ w = w' := by
  have h0' : decide (c < 1) = false := by simpa using h.1
  have h1' : decide (3 < c) = false := by simpa using h.2
  have G1 := Lib.hid (fun w => good_any a w)
  have G2 := Lib.hid (fun w => good_any b w)
  clear h
  by_cases ga : -719162 ≤ a ∧ a ≤ 2932896
  · rw [decide_eq_true ga] at G1
    by_cases gb : -719162 ≤ b ∧ b ≤ 2932896
    · rw [decide_eq_true gb] at G2
      have hab : b < a := by unfold Stretch at s; omega
      clear s ga gb
      go_enter Try.func8, Try.ntmps8
      go_wp2_with (first | (go_at_call 15; (with_reducible refine (G1.out _).mono ?_); rintro e w1 ⟨rfl, rfl⟩) | (go_at_call 15; (with_reducible refine (G2.out _).mono ?_); rintro e w1 ⟨rfl, rfl⟩))
      go_ret3
      exact ⟨rfl, rfl⟩
    · rw [decide_eq_false gb] at G2
      clear s ga gb
      go_enter Try.func8, Try.ntmps8
      go_wp2_with (first | (go_at_call 15; (with_reducible refine (G1.out _).mono ?_); rintro e w1 ⟨rfl, rfl⟩) | (go_at_call 15; (with_reducible refine (G2.out _).mono ?_); rintro e w1 ⟨rfl, rfl⟩))
      go_ret3
      exact ⟨rfl, rfl⟩
  · rw [decide_eq_false ga] at G1
    clear s ga
    go_enter Try.func8, Try.ntmps8
    go_wp2_with (first | (go_at_call 15; (with_reducible refine (G1.out _).mono ?_); rintro e w1 ⟨rfl, rfl⟩))
    go_ret3
    exact ⟨rfl, rfl⟩

set_option maxHeartbeats 400000 in
theorem countR_two (a b : Int) (w : World) (s : Stretch a b) :
    Calls Try.prog 8 #[.int .i64 2, .int .i64 a, .int .i64 b] w fun e w' => e = .returned (.tuple #[.int .i64 (b - a), .int .i64 360, .int .i64 0]) ∧ w = w' := by
  have G1 := Lib.hid (fun w => good_any a w)
  have G2 := Lib.hid (fun w => good_any b w)
  rw [(stretch_good s).1] at G1
  rw [(stretch_good s).2] at G2
  obtain ⟨s0, s1, s2⟩ := s
  have d1 : decide (b < a) = false := by simpa using s1
  go_enter Try.func8, Try.ntmps8
  go_wp2_with (first | (go_at_call 15; (with_reducible refine (G1.out _).mono ?_); rintro e w1 ⟨rfl, rfl⟩) | (go_at_call 15; (with_reducible refine (G2.out _).mono ?_); rintro e w1 ⟨rfl, rfl⟩))
  go_ret3
  exact ⟨rfl, rfl⟩
set_option maxHeartbeats 400000 in
theorem countR_three (a b : Int) (w : World) (s : Stretch a b) :
    Calls Try.prog 8 #[.int .i64 3, .int .i64 a, .int .i64 b] w fun e w' => e = .returned (.tuple #[.int .i64 (b - a), .int .i64 365, .int .i64 0]) ∧ w = w' := by
  have G1 := Lib.hid (fun w => good_any a w)
  have G2 := Lib.hid (fun w => good_any b w)
  rw [(stretch_good s).1] at G1
  rw [(stretch_good s).2] at G2
  obtain ⟨s0, s1, s2⟩ := s
  have d1 : decide (b < a) = false := by simpa using s1
  go_enter Try.func8, Try.ntmps8
  go_wp2_with (first | (go_at_call 15; (with_reducible refine (G1.out _).mono ?_); rintro e w1 ⟨rfl, rfl⟩) | (go_at_call 15; (with_reducible refine (G2.out _).mono ?_); rintro e w1 ⟨rfl, rfl⟩))
  go_ret3
  exact ⟨rfl, rfl⟩

theorem ret_three {k l j : IntKind} {a b c d p q : Int} (h : a = b) (g : c = d) (f : p = q) : Ending.returned (.tuple #[.int k a, .int l c, .int j p]) = .returned (.tuple #[.int k b, .int l d, .int j q]) := by rw [h, g, f]

set_option maxHeartbeats 1000000 in
theorem countR_one (u m d z n e : Int) (w : World) (v1 : Valid u m d) (v2 : Valid z n e) (s : Stretch (num u m d) (num z n e)) :
    Calls Try.prog 8 #[.int .i64 1, .int .i64 (num u m d), .int .i64 (num z n e)] w fun r w' => r = .returned (.tuple #[.int .i64 (thirtyP u m d z n e), .int .i64 360, .int .i64 0]) ∧ w = w' := by
  have H1 := Lib.hid (fun w => splitR_yes u m d w v1)
  have H2 := Lib.hid (fun w => splitR_yes z n e w v2)
  have b1 := mlen_bd u m
  have b2 := mlen_bd z n
  obtain ⟨p1, p2, p3, p4, p5, p6⟩ := v1
  obtain ⟨q1, q2, q3, q4, q5, q6⟩ := v2
  generalize num u m d = a at H1 s ⊢
  generalize num z n e = b at H2 s ⊢
  have G1 := Lib.hid (fun w => good_any a w)
  have G2 := Lib.hid (fun w => good_any b w)
  rw [(stretch_good s).1] at G1
  rw [(stretch_good s).2] at G2
  have d1 : decide (b < a) = false := by simpa using s.2.1
  have p7 : d ≤ 31 := by omega
  have q7 : e ≤ 31 := by omega
  clear p6 q6 b1 b2 s
  unfold thirtyP
  by_cases hd : d = 31
  · subst hd
    by_cases he : e = 31
    · subst he
      rw [e31_yes d31_yes, d31_yes]
      go_enter Try.func8, Try.ntmps8
      go_wp2_with (first | (go_at_call 15; (with_reducible refine (G1.out _).mono ?_); rintro e w1 ⟨rfl, rfl⟩) | (go_at_call 15; (with_reducible refine (G2.out _).mono ?_); rintro e w1 ⟨rfl, rfl⟩) | (go_at_call 16; (with_reducible refine (H1.out _).mono ?_); rintro e w1 ⟨rfl, rfl⟩) | (go_at_call 16; (with_reducible refine (H2.out _).mono ?_); rintro e w2 ⟨rfl, rfl⟩))
      go_ret3
      exact ⟨ret_three (by omega) rfl rfl, rfl⟩
    · rw [e31_no he, d31_yes]
      have he' : (e == 31) = false := by simpa using he
      clear he
      go_enter Try.func8, Try.ntmps8
      go_wp2_with (first | (go_at_call 15; (with_reducible refine (G1.out _).mono ?_); rintro e w1 ⟨rfl, rfl⟩) | (go_at_call 15; (with_reducible refine (G2.out _).mono ?_); rintro e w1 ⟨rfl, rfl⟩) | (go_at_call 16; (with_reducible refine (H1.out _).mono ?_); rintro e w1 ⟨rfl, rfl⟩) | (go_at_call 16; (with_reducible refine (H2.out _).mono ?_); rintro e w2 ⟨rfl, rfl⟩))
      go_ret3
      exact ⟨ret_three (by omega) rfl rfl, rfl⟩
  · have hd' : (d == 31) = false := by simpa using hd
    rw [d31_no hd]
    by_cases he : e = 31
    · subst he
      by_cases h0 : d = 30
      · subst h0
        rw [e31_yes rfl]
        clear hd
        go_enter Try.func8, Try.ntmps8
        go_wp2_with (first | (go_at_call 15; (with_reducible refine (G1.out _).mono ?_); rintro e w1 ⟨rfl, rfl⟩) | (go_at_call 15; (with_reducible refine (G2.out _).mono ?_); rintro e w1 ⟨rfl, rfl⟩) | (go_at_call 16; (with_reducible refine (H1.out _).mono ?_); rintro e w1 ⟨rfl, rfl⟩) | (go_at_call 16; (with_reducible refine (H2.out _).mono ?_); rintro e w2 ⟨rfl, rfl⟩))
        go_ret3
        exact ⟨ret_three (by omega) rfl rfl, rfl⟩
      · rw [e31_stays (by rw [d31_no hd]; exact h0)]
        have h0' : (d == 30) = false := by simpa using h0
        clear hd h0
        go_enter Try.func8, Try.ntmps8
        go_wp2_with (first | (go_at_call 15; (with_reducible refine (G1.out _).mono ?_); rintro e w1 ⟨rfl, rfl⟩) | (go_at_call 15; (with_reducible refine (G2.out _).mono ?_); rintro e w1 ⟨rfl, rfl⟩) | (go_at_call 16; (with_reducible refine (H1.out _).mono ?_); rintro e w1 ⟨rfl, rfl⟩) | (go_at_call 16; (with_reducible refine (H2.out _).mono ?_); rintro e w2 ⟨rfl, rfl⟩))
        go_ret3
        exact ⟨ret_three (by omega) rfl rfl, rfl⟩
    · rw [e31_no he]
      have he' : (e == 31) = false := by simpa using he
      clear hd he
      go_enter Try.func8, Try.ntmps8
      go_wp2_with (first | (go_at_call 15; (with_reducible refine (G1.out _).mono ?_); rintro e w1 ⟨rfl, rfl⟩) | (go_at_call 15; (with_reducible refine (G2.out _).mono ?_); rintro e w1 ⟨rfl, rfl⟩) | (go_at_call 16; (with_reducible refine (H1.out _).mono ?_); rintro e w1 ⟨rfl, rfl⟩) | (go_at_call 16; (with_reducible refine (H2.out _).mono ?_); rintro e w2 ⟨rfl, rfl⟩))
      go_ret3
      exact ⟨ret_three (by omega) rfl rfl, rfl⟩

theorem countR_any (c a b x y er : Int) (w : World) (h : Counts c a b x y er) :
    Calls Try.prog 8 #[.int .i64 c, .int .i64 a, .int .i64 b] w fun e w' => e = .returned (.tuple #[.int .i64 x, .int .i64 y, .int .i64 er]) ∧ w = w' := by
  rcases h with ⟨h, rfl, rfl, rfl⟩ | ⟨h, g, rfl, rfl, rfl⟩ | ⟨rfl, h, ⟨u, m, d, z, n, e, v1, v2, rfl, rfl, rfl⟩, rfl, rfl⟩ | ⟨rfl, h, rfl, rfl, rfl⟩ | ⟨rfl, h, rfl, rfl, rfl⟩
  · exact countR_range c a b w h
  · exact countR_date c a b w h g
  · exact countR_one u m d z n e w v1 v2 h
  · exact countR_two a b w h
  · exact countR_three a b w h

end Go.Proofs.Ytfcgmhkfehcdaaa
