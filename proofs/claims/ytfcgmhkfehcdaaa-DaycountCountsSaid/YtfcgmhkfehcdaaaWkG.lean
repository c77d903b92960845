/-
  Walks: the three conventions; Count.
-/
import Derived.Test.YtfcgmhkfehcdaaaWkF
namespace Go.Proofs.Ytfcgmhkfehcdaaa
open Go.RowKit

def conv3 : Array Value := #[.func (.func 21) #[] #[], .func (.func 22) #[] #[], .func (.func 23) #[] #[]]

set_option maxHeartbeats 400000 in
theorem conventions_any (w : World) :
    Calls Try.prog 13 #[] w fun e w' => e = .returned (.agg conv3) ∧ Below w.heap.size w w' := by
  unfold conv3
  go_enter Try.func13, Try.ntmps13
  go_wp2
  refine bodyPost_ret (v := .agg #[.func (.func 21) #[] #[], .func (.func 22) #[] #[], .func (.func 23) #[] #[]]) (by simp [results, Try.results13, go_sem]) rfl ⟨rfl, ?_⟩
  exact (Below.refl _ _).alloc (Nat.le_refl _) _

set_option maxHeartbeats 400000 in
theorem count_range (c a b : Int) (w : World) (h : ¬ (1 ≤ c ∧ c ≤ 3)) :
    Calls Try.prog 7 #[.int .i64 c, .int .i64 a, .int .i64 b] w fun e w' => e = .returned (.tuple #[.int .i64 0, .int .i64 0, .int .i64 2]) ∧ Below w.heap.size w w' := by
  have C := Lib.hid conventions_any
  unfold conv3 at C
  by_cases h0 : c < 1
  · clear h
    go_enter Try.func7, Try.ntmps7
    go_wp2_with (go_at_call 13; refine (C.out _).mono ?_; rintro e w1 ⟨rfl, hb1⟩)
    go_ret3
    exact ⟨rfl, hb1.alloc hb1.size _⟩
  · have h0' : decide (c < 1) = false := by simpa using h0
    have h1 : 3 < c := by omega
    clear h
    go_enter Try.func7, Try.ntmps7
    go_wp2_with (go_at_call 13; refine (C.out _).mono ?_; rintro e w1 ⟨rfl, hb1⟩)
    go_ret3
    exact ⟨rfl, hb1.alloc hb1.size _⟩

set_option maxHeartbeats 400000 in
theorem count_date (c a b : Int) (w : World) (h : 1 ≤ c ∧ c ≤ 3) (s : ¬ Stretch a b) :
    Calls Try.prog 7 #[.int .i64 c, .int .i64 a, .int .i64 b] w fun e w' => e = .returned (.tuple #[.int .i64 0, .int .i64 0, .int .i64 6]) ∧ Below w.heap.size w w' := by
  have C := Lib.hid conventions_any
  unfold conv3 at C
  have S := Lib.hid (fun w => isStretch_any a b w)
  rw [decide_eq_false s] at S
  have h0' : decide (c < 1) = false := by simpa using h.1
  have h1' : decide (3 < c) = false := by simpa using h.2
  clear h s
  go_enter Try.func7, Try.ntmps7
  go_wp2_with (first | (go_at_call 13; refine (C.out _).mono ?_; rintro e w1 ⟨rfl, hb1⟩) | (go_at_call 14; refine (S.out _).mono ?_; rintro e w2 ⟨rfl, rfl⟩))
  go_ret3
  exact ⟨rfl, hb1.alloc hb1.size _⟩

set_option maxHeartbeats 400000 in
theorem count_one (a b x : Int) (w : World) (s : Stretch a b) (f : ∀ w, Calls Try.prog 21 #[.int .i64 a, .int .i64 b] w fun r w' => r = .returned (.tuple #[.int .i64 x, .int .i64 360]) ∧ Below w.heap.size w w') :
    Calls Try.prog 7 #[.int .i64 1, .int .i64 a, .int .i64 b] w fun e w' => e = .returned (.tuple #[.int .i64 x, .int .i64 360, .int .i64 0]) ∧ Below w.heap.size w w' := by
  have C := Lib.hid conventions_any
  unfold conv3 at C
  have S := Lib.hid (fun w => isStretch_any a b w)
  rw [decide_eq_true s] at S
  have F := Lib.hid f
  clear s f
  go_enter Try.func7, Try.ntmps7
  go_wp2_with (first | (go_at_call 13; refine (C.out _).mono ?_; rintro e w1 ⟨rfl, hb1⟩) | (go_at_call 14; refine (S.out _).mono ?_; rintro e w2 ⟨rfl, rfl⟩) | (go_at_call 21; refine (F.out _).mono ?_; rintro e w3 ⟨rfl, hb3⟩))
  go_ret3
  exact ⟨rfl, below_then (hb1.alloc hb1.size _) hb3⟩

set_option maxHeartbeats 400000 in
theorem count_two (a b : Int) (w : World) (s : Stretch a b) :
    Calls Try.prog 7 #[.int .i64 2, .int .i64 a, .int .i64 b] w fun e w' => e = .returned (.tuple #[.int .i64 (b - a), .int .i64 360, .int .i64 0]) ∧ Below w.heap.size w w' := by
  have C := Lib.hid conventions_any
  unfold conv3 at C
  have S := Lib.hid (fun w => isStretch_any a b w)
  rw [decide_eq_true s] at S
  have F := Lib.hid (fun w => actual360_any a b w s)
  clear s
  go_enter Try.func7, Try.ntmps7
  go_wp2_with (first | (go_at_call 13; refine (C.out _).mono ?_; rintro e w1 ⟨rfl, hb1⟩) | (go_at_call 14; refine (S.out _).mono ?_; rintro e w2 ⟨rfl, rfl⟩) | (go_at_call 22; refine (F.out _).mono ?_; rintro e w3 ⟨rfl, rfl⟩))
  go_ret3
  exact ⟨rfl, hb1.alloc hb1.size _⟩

set_option maxHeartbeats 400000 in
theorem count_three (a b : Int) (w : World) (s : Stretch a b) :
    Calls Try.prog 7 #[.int .i64 3, .int .i64 a, .int .i64 b] w fun e w' => e = .returned (.tuple #[.int .i64 (b - a), .int .i64 365, .int .i64 0]) ∧ Below w.heap.size w w' := by
  have C := Lib.hid conventions_any
  unfold conv3 at C
  have S := Lib.hid (fun w => isStretch_any a b w)
  rw [decide_eq_true s] at S
  have F := Lib.hid (fun w => actual365_any a b w s)
  clear s
  go_enter Try.func7, Try.ntmps7
  go_wp2_with (first | (go_at_call 13; refine (C.out _).mono ?_; rintro e w1 ⟨rfl, hb1⟩) | (go_at_call 14; refine (S.out _).mono ?_; rintro e w2 ⟨rfl, rfl⟩) | (go_at_call 23; refine (F.out _).mono ?_; rintro e w3 ⟨rfl, rfl⟩))
  go_ret3
  exact ⟨rfl, hb1.alloc hb1.size _⟩

theorem count_any (c a b x y er : Int) (w : World) (h : Counts c a b x y er) :
    Calls Try.prog 7 #[.int .i64 c, .int .i64 a, .int .i64 b] w fun e w' => e = .returned (.tuple #[.int .i64 x, .int .i64 y, .int .i64 er]) ∧ Below w.heap.size w w' := by
  rcases h with ⟨h, rfl, rfl, rfl⟩ | ⟨h, g, rfl, rfl, rfl⟩ | ⟨rfl, h, ⟨u, m, d, z, n, e, v1, v2, rfl, rfl, rfl⟩, rfl, rfl⟩ | ⟨rfl, h, rfl, rfl, rfl⟩ | ⟨rfl, h, rfl, rfl, rfl⟩
  · exact count_range c a b w h
  · exact count_date c a b w h g
  · exact count_one _ _ _ w h fun w => thirty360_any u m d z n e w v1 v2
  · exact count_two a b w h
  · exact count_three a b w h

end Go.Proofs.Ytfcgmhkfehcdaaa
