/-
  Walks of the laws on texts of layer 2.
-/
import Derived.Test.YtokjolbjllfaaaaLaw
namespace Go.Proofs.Ytokjolbjllfaaaa
open Go.RowKit

theorem reads_some (s : ByteArray) : ∃ v er, ReadsTo s v er := by
  by_cases h : Form s
  · exact ⟨_, _, Or.inl ⟨h, rfl, rfl⟩⟩
  · exact ⟨_, _, Or.inr ⟨h, rfl, rfl⟩⟩
theorem read_is (s : ByteArray) (v er : Int) (w : World) (hs : s.size ≤ 9223372036854775807) (h : ReadsTo s v er) :
    Calls Try.prog 20 #[.string s] w fun e w' => e = .returned (.tuple #[.int .i64 v, .int .i64 er]) ∧ Below w.heap.size w w' := by
  refine (read_any s w hs).mono ?_
  rintro e w' ⟨v', er', rfl, h', hb⟩
  obtain ⟨rfl, rfl⟩ := h.one h'
  exact ⟨rfl, hb⟩
theorem readR_is (s : ByteArray) (v er : Int) (w : World) (hs : s.size ≤ 9223372036854775807) (h : ReadsTo s v er) :
    Calls Try.prog 21 #[.string s] w fun e w' => e = .returned (.tuple #[.int .i64 v, .int .i64 er]) ∧ Below w.heap.size w w' := by
  refine (readR_any s w hs).mono ?_
  rintro e w' ⟨v', er', rfl, h', hb⟩
  obtain ⟨rfl, rfl⟩ := h.one h'
  exact ⟨rfl, hb⟩

set_option maxHeartbeats 1000000 in
theorem texts_law (n : Int) (s : ByteArray) (w : World) (hs : s.size ≤ 9223372036854775807) :
    Calls Try.prog 7 #[.int .i64 n, .string s] w fun e w' => e = .returned (.bool true) ∧ Below w.heap.size w w' := by
  obtain ⟨v, er, hr⟩ := reads_some s
  have R1 := Lib.hid (fun w => read_is s v er w hs hr)
  have R2 := Lib.hid (fun w => readR_is s v er w hs hr)
  clear hr hs
  by_cases h : -719162 ≤ n ∧ n ≤ 2932896
  · obtain ⟨y, m, d, va, hn⟩ := date_of n h.1 h.2
    have H1 := Lib.hid (fun w => text_yes y m d w va)
    have H2 := Lib.hid (fun w => textR_yes y m d w va)
    have H3 := Lib.hid (fun w => text_back y m d va w)
    simp only [hn] at H1 H2 H3
    generalize textB y m d = t at H1 H2 H3
    clear h hn va
    go_enter Try.func7, Try.ntmps7
    go_wp2_with (first | (go_at_call 9; refine (wakes_any _).mono ?_; rintro e w1 ⟨rfl, hb1⟩) | (go_at_call 18; refine (H1.out _).mono ?_; rintro e w2 ⟨rfl, hb2⟩) | (go_at_call 19; refine (H2.out _).mono ?_; rintro e w3 ⟨rfl, hb3⟩) | (go_at_call 20; (with_reducible refine (R1.out _).mono ?_); rintro e w4 ⟨rfl, hb4⟩) | (go_at_call 21; refine (R2.out _).mono ?_; rintro e w5 ⟨rfl, hb5⟩) | (go_at_call 20; (with_reducible refine (H3.out _).mono ?_); rintro e w6 ⟨rfl, hb6⟩))
    go_ret
    exact ⟨by simp, below_then (below_then (below_then (below_then (below_then hb1 hb2) hb3) hb4) hb5) hb6⟩
  · have H1 := Lib.hid (fun w => text_no n w h)
    have H2 := Lib.hid (fun w => textR_no n w h)
    have H3 := Lib.hid (fun w => read_no ⟨#[]⟩ w (by decide) (fun f => absurd f.1 (by decide)))
    clear h
    go_enter Try.func7, Try.ntmps7
    go_wp2_with (first | (go_at_call 9; refine (wakes_any _).mono ?_; rintro e w1 ⟨rfl, hb1⟩) | (go_at_call 18; refine (H1.out _).mono ?_; rintro e w2 ⟨rfl, rfl⟩) | (go_at_call 19; refine (H2.out _).mono ?_; rintro e w3 ⟨rfl, rfl⟩) | (go_at_call 20; (with_reducible refine (R1.out _).mono ?_); rintro e w4 ⟨rfl, hb4⟩) | (go_at_call 21; refine (R2.out _).mono ?_; rintro e w5 ⟨rfl, hb5⟩) | (go_at_call 20; refine (H3.out _).mono ?_; rintro e w6 ⟨rfl, rfl⟩))
    go_ret
    exact ⟨by simp, below_then (below_then hb1 hb4) hb5⟩

set_option maxHeartbeats 1000000 in
theorem order_law (a b : Int) (w : World) :
    Calls Try.prog 8 #[.int .i64 a, .int .i64 b] w fun e w' => e = .returned (.bool true) ∧ Below w.heap.size w w' := by
  have G1 := Lib.hid (fun w => good_any a w)
  have G2 := Lib.hid (fun w => good_any b w)
  by_cases h : -719162 ≤ a ∧ a ≤ 2932896
  · obtain ⟨y, m, d, va, hn⟩ := date_of a h.1 h.2
    rw [decide_eq_true h] at G1
    have H1 := Lib.hid (fun w => text_yes y m d w va)
    by_cases k : -719162 ≤ b ∧ b ≤ 2932896
    · obtain ⟨u, c, e, vb, kn⟩ := date_of b k.1 k.2
      have H2 := Lib.hid (fun w => text_yes u c e w vb)
      have L := less_text y m d u c e va vb
      have S := same_text y m d u c e va vb
      rw [show decide (num y m d = num u c e) = (num y m d == num u c e) by rw [Bool.eq_iff_iff]; simp] at S
      simp only [hn, kn] at H1 H2 L S
      generalize textB y m d = t at H1 L S
      generalize textB u c e = t' at H2 L S
      clear h k hn kn va vb
      go_enter Try.func8, Try.ntmps8
      go_wp2_with (first | (go_at_call 9; refine (wakes_any _).mono ?_; rintro e w1 ⟨rfl, hb1⟩) | (go_at_call 18; (with_reducible refine (H1.out _).mono ?_); rintro e w2 ⟨rfl, hb2⟩) | (go_at_call 18; (with_reducible refine (H2.out _).mono ?_); rintro e w3 ⟨rfl, hb3⟩))
      all_goals
        go_ret
        exact ⟨by simp, below_then (below_then hb1 hb2) hb3⟩
    · have H2 := Lib.hid (fun w => text_no b w k)
      rw [decide_eq_false k] at G2
      generalize textB y m d = t at H1
      simp only [hn] at H1
      clear h k hn va
      go_enter Try.func8, Try.ntmps8
      go_wp2_with (first | (go_at_call 9; refine (wakes_any _).mono ?_; rintro e w1 ⟨rfl, hb1⟩) | (go_at_call 18; (with_reducible refine (H1.out _).mono ?_); rintro e w2 ⟨rfl, hb2⟩) | (go_at_call 18; (with_reducible refine (H2.out _).mono ?_); rintro e w3 ⟨rfl, rfl⟩) | (go_at_call 22; (with_reducible refine (G1.out _).mono ?_); rintro e w4 ⟨rfl, rfl⟩) | (go_at_call 22; (with_reducible refine (G2.out _).mono ?_); rintro e w5 ⟨rfl, rfl⟩))
      go_ret
      exact ⟨by simp, below_then hb1 hb2⟩
  · have H1 := Lib.hid (fun w => text_no a w h)
    rw [decide_eq_false h] at G1
    have H2 : Hid (∀ w, Calls Try.prog 18 #[.int .i64 b] w fun e w' => ∃ t er, e = .returned (.tuple #[.string t, .int .i64 er]) ∧ Below w.heap.size w w') := by
      apply Lib.hid
      intro w
      by_cases k : -719162 ≤ b ∧ b ≤ 2932896
      · obtain ⟨u, c, e, vb, kn⟩ := date_of b k.1 k.2
        rw [← kn]
        exact (text_yes u c e w vb).mono fun _ _ h => ⟨_, _, h.1, h.2⟩
      · refine (text_no b w k).mono ?_
        rintro e w' ⟨rfl, rfl⟩
        exact ⟨_, _, rfl, Below.refl _ _⟩
    clear h
    go_enter Try.func8, Try.ntmps8
    go_wp2_with (first | (go_at_call 9; refine (wakes_any _).mono ?_; rintro e w1 ⟨rfl, hb1⟩) | (go_at_call 18; (with_reducible refine (H1.out _).mono ?_); rintro e w2 ⟨rfl, rfl⟩) | (go_at_call 18; (with_reducible refine (H2.out _).mono ?_); rintro e w3 ⟨t, er, rfl, hb3⟩) | (go_at_call 22; (with_reducible refine (G1.out _).mono ?_); rintro e w4 ⟨rfl, rfl⟩))
    all_goals
      go_ret
      exact ⟨by simp, below_then hb1 hb3⟩

end Go.Proofs.Ytokjolbjllfaaaa
