/-
  Walks: a date's day.
-/
import Derived.Test.YtfcgmhkfehcdaaaWkB
namespace Go.Proofs.Ytfcgmhkfehcdaaa
open Go.RowKit

theorem int_eq {k : IntKind} {a b : Int} (h : a = b) : Value.int k a = .int k b := by rw [h]
theorem lens_cell (w : World) (y : Int) (t : TypeId) (n : Nat) (h1 : n < 12) : (w.alloc (.cells (lens y) t)).cell? ⟨w.heap.size, n, none⟩ = some (.int .i64 (mlen y ((n : Int) + 1))) := by
  have := lens_get y ((n : Int) + 1) (by omega) (by omega)
  rw [show ((n : Int) + 1 - 1).toNat = n by omega] at this
  simp [go_sem, this]

set_option maxRecDepth 100000 in
set_option maxHeartbeats 400000 in
theorem of_low (y m d : Int) (w : World) (h : y < 1 ∨ 9999 < y ∨ m < 1 ∨ 12 < m) :
    Calls Try.prog 27 #[.int .i64 y, .int .i64 m, .int .i64 d] w fun e w' => e = .returned (.tuple #[.int .i64 0, .int .i64 6]) ∧ Below w.heap.size w w' := by
  by_cases h1 : y < 1
  · clear h
    go_enter Try.func27, Try.ntmps27
    go_wp2
    go_ret2
    exact ⟨rfl, Below.refl _ _⟩
  · have d1 : decide (y < 1) = false := by simpa using h1
    by_cases h2 : 9999 < y
    · clear h
      go_enter Try.func27, Try.ntmps27
      go_wp2
      go_ret2
      exact ⟨rfl, Below.refl _ _⟩
    · have d2 : decide (9999 < y) = false := by simpa using h2
      by_cases h3 : m < 1
      · clear h
        go_enter Try.func27, Try.ntmps27
        go_wp2
        go_ret2
        exact ⟨rfl, Below.refl _ _⟩
      · have d3 : decide (m < 1) = false := by simpa using h3
        have h4 : 12 < m := by omega
        clear h
        go_enter Try.func27, Try.ntmps27
        go_wp2
        go_ret2
        exact ⟨rfl, Below.refl _ _⟩

set_option maxRecDepth 100000 in
set_option maxHeartbeats 1000000 in
theorem of_mid (y d : Int) (n : Nat) (w : World) (h1 : 1 ≤ y) (h2 : y ≤ 9999) (h3 : n < 12) (hd : d < 1 ∨ mlen y ((n : Int) + 1) < d) :
    Calls Try.prog 27 #[.int .i64 y, .int .i64 ((n : Int) + 1), .int .i64 d] w fun e w' => e = .returned (.tuple #[.int .i64 0, .int .i64 6]) ∧ Below w.heap.size w w' := by
  have d1 : decide (y < 1) = false := by simpa using h1
  have d2 : decide (9999 < y) = false := by simpa using h2
  have d3 : decide ((n : Int) + 1 < 1) = false := by simp; omega
  have d4 : decide (12 < (n : Int) + 1) = false := by simp; omega
  have n0 : (n : Int) < 12 := by omega
  have H := Lib.hid (fun w => monthLengths_any y w (by omega) (by omega))
  have C := Lib.hid (fun w => lens_cell w y 55 n h3)
  have B := mlen_bd y ((n : Int) + 1)
  unfold lens at H C
  by_cases h5 : d < 1
  · clear hd
    go_enter Try.func27, Try.ntmps27
    go_wp2_with (go_at_call 28; refine (H.out _).mono ?_; rintro e w1 ⟨rfl, hb1⟩)
    go_ret2
    exact ⟨rfl, hb1.alloc hb1.size _⟩
  · have d5 : decide (d < 1) = false := by simpa using h5
    have h6 : mlen y ((n : Int) + 1) < d := by omega
    clear hd
    go_enter Try.func27, Try.ntmps27
    go_wp2_with (go_at_call 28; refine (H.out _).mono ?_; rintro e w1 ⟨rfl, hb1⟩; have hc := C.out w1)
    go_ret2
    exact ⟨rfl, hb1.alloc hb1.size _⟩

theorem cut12 (b n : Nat) (h : n < 12) (w : World) : (Instr.sliceAt 55 (.pointer (some ⟨b, 0, none⟩)) none (some (.int .i64 (n : Int))) none).run Try.prog w = .ok (.slice (some ⟨b, 0, none⟩) n 12) w := by
  have e : Try.prog.arrayLen 55 = 12 := by kernel_rfl
  have z : (sizeOf (Try.prog.elem 55)).run Try.prog w = .ok 1 w := by kernel_rfl
  rw [run_sliceAt_array_h (P := Try.prog) w 55 ⟨b, 0, none⟩ (by kernel_rfl) .i64 (n : Int) (by omega) (by rw [e]; omega), z]
  simp [slicedAt, e, Addr.add]

set_option maxRecDepth 100000 in
set_option maxHeartbeats 1000000 in
theorem of_good (y d : Int) (n : Nat) (w : World) (h1 : 1 ≤ y) (h2 : y ≤ 9999) (h3 : n < 12) (h5 : 1 ≤ d) (h6 : d ≤ mlen y ((n : Int) + 1)) :
    Calls Try.prog 27 #[.int .i64 y, .int .i64 ((n : Int) + 1), .int .i64 d] w fun e w' => e = .returned (.tuple #[.int .i64 (num y ((n : Int) + 1) d), .int .i64 0]) ∧ Below w.heap.size w w' := by
  have d1 : decide (y < 1) = false := by simpa using h1
  have d2 : decide (9999 < y) = false := by simpa using h2
  have d3 : decide ((n : Int) + 1 < 1) = false := by simp; omega
  have d4 : decide (12 < (n : Int) + 1) = false := by simp; omega
  have d5 : decide (d < 1) = false := by simpa using h5
  have d6 : decide (mlen y ((n : Int) + 1) < d) = false := by simpa using h6
  have n0 : (n : Int) < 12 := by omega
  have H := Lib.hid (fun w => monthLengths_any y w (by omega) (by omega))
  have C := Lib.hid (fun w k hk => lens_cell w y 55 k hk)
  have B := mlen_bd y ((n : Int) + 1)
  have A := ahead_bd y h1 (by omega)
  unfold lens at H C
  go_enter Try.func27, Try.ntmps27
  go_wp2_with (first | (go_at_call 28; refine (H.out _).mono ?_; rintro e w1 ⟨rfl, hb1⟩; have hc := C.out w1 n h3; have ct := cut12 w1.heap.size n h3) | (go_at_call 35; refine (daysAhead_any _ _ (by omega) (by omega)).mono ?_; rintro e w' ⟨rfl, rfl⟩))
  have hb2 := Lib.hid (hb1.alloc hb1.size (.cells #[.int .i64 31, .int .i64 (28 + lp y), .int .i64 31, .int .i64 30, .int .i64 31, .int .i64 30, .int .i64 31, .int .i64 31, .int .i64 30, .int .i64 31, .int .i64 30, .int .i64 31] 55))
  have C1 := Lib.hid (C.out w1)
  clear H C hb1 hc ct
  generalize w1.alloc (.cells #[.int .i64 31, .int .i64 (28 + lp y), .int .i64 31, .int .i64 30, .int .i64 31, .int .i64 30, .int .i64 31, .int .i64 31, .int .i64 30, .int .i64 31, .int .i64 30, .int .i64 31] 55) = w2 at C1 hb2 ⊢
  generalize w1.heap.size = g at C1 ⊢
  go_loop [9, 48] (fun t9 t48 => ∃ k : Nat, k ≤ n ∧ t9 = .int .i64 (-719162 + ahead y + d - 1 + cum y ((k : Int) + 1)) ∧ t48 = .int .i64 k) (fun _ t48 => n - (intOf t48).toNat)
  case atStart => exact ⟨0, by omega, int_eq (by have := cum_one y; simp [this]), rfl⟩
  case round =>
    obtain ⟨k, hk, rfl, rfl⟩ := hrel
    have B1 := cum_bd y ((k : Int) + 1) (by omega) (by omega)
    by_cases hlt : k < n
    · have S := Lib.hid (cum_succ y ((k : Int) + 1) (by omega) (by omega))
      have M := mlen_bd y ((k : Int) + 1)
      have hc := C1.out k (by omega)
      have hki : (k : Int) < n := by omega
      go_wp2
      go_round
      case rel => exact ⟨k + 1, by omega, int_eq (by have := S.out; rw [show ((k + 1 : Nat) : Int) = (k : Int) + 1 by omega]; omega), by go_num⟩
      case measure => simp [intOf]; omega
    · obtain rfl : k = n := by omega
      go_wp2
      go_ret2
      exact ⟨ret_two (by unfold num; omega) rfl, hb2.out⟩

theorem of_any (y m d : Int) (w : World) :
    Calls Try.prog 27 #[.int .i64 y, .int .i64 m, .int .i64 d] w fun e w' => e = .returned (.tuple #[.int .i64 (ofP y m d).1, .int .i64 (ofP y m d).2]) ∧ Below w.heap.size w w' := by
  by_cases h : Valid y m d
  · rw [ofP_yes y m d h]
    obtain ⟨h1, h2, h3, h4, h5, h6⟩ := h
    obtain ⟨n, rfl⟩ : ∃ n : Nat, m = (n : Int) + 1 := ⟨(m - 1).toNat, by omega⟩
    exact of_good y d n w h1 h2 (by omega) h5 h6
  · rw [ofP_no y m d h]
    by_cases g : y < 1 ∨ 9999 < y ∨ m < 1 ∨ 12 < m
    · exact of_low y m d w g
    · obtain ⟨n, rfl⟩ : ∃ n : Nat, m = (n : Int) + 1 := ⟨(m - 1).toNat, by omega⟩
      refine of_mid y d n w (by omega) (by omega) (by omega) ?_
      apply Classical.byContradiction
      intro k
      exact h ⟨by omega, by omega, by omega, by omega, by omega, by omega⟩

/-! the document's own -/
set_option maxRecDepth 100000 in
set_option maxHeartbeats 1000000 in
theorem ofR_no (y m d : Int) (w : World) (h : ¬ Valid y m d) :
    Calls Try.prog 29 #[.int .i64 y, .int .i64 m, .int .i64 d] w fun e w' => e = .returned (.tuple #[.int .i64 0, .int .i64 6]) ∧ w = w' := by
  by_cases h1 : y < 1
  · clear h
    go_enter Try.func29, Try.ntmps29
    go_wp2
    go_ret2
    exact ⟨rfl, rfl⟩
  · have d1 : decide (y < 1) = false := by simpa using h1
    by_cases h2 : 9999 < y
    · clear h
      go_enter Try.func29, Try.ntmps29
      go_wp2
      go_ret2
      exact ⟨rfl, rfl⟩
    · have d2 : decide (9999 < y) = false := by simpa using h2
      by_cases h3 : m < 1
      · clear h
        go_enter Try.func29, Try.ntmps29
        go_wp2
        go_ret2
        exact ⟨rfl, rfl⟩
      · have d3 : decide (m < 1) = false := by simpa using h3
        by_cases h4 : 12 < m
        · clear h
          go_enter Try.func29, Try.ntmps29
          go_wp2
          go_ret2
          exact ⟨rfl, rfl⟩
        · have d4 : decide (12 < m) = false := by simpa using h4
          by_cases h5 : d < 1
          · clear h
            go_enter Try.func29, Try.ntmps29
            go_wp2
            go_ret2
            exact ⟨rfl, rfl⟩
          · have d5 : decide (d < 1) = false := by simpa using h5
            have h6 : mlen y m < d := by
              apply Classical.byContradiction
              intro k
              exact h ⟨by omega, by omega, by omega, by omega, by omega, by omega⟩
            clear h
            go_enter Try.func29, Try.ntmps29
            go_wp2_with (go_at_call 25; refine (days_any _ _ _ (by omega) (by omega)).mono ?_; rintro e w' ⟨rfl, rfl⟩)
            go_ret2
            exact ⟨rfl, rfl⟩

set_option maxRecDepth 100000 in
set_option maxHeartbeats 1000000 in
theorem ofR_yes (y d : Int) (n : Nat) (w : World) (h1 : 1 ≤ y) (h2 : y ≤ 9999) (h3 : n < 12) (h5 : 1 ≤ d) (h6 : d ≤ mlen y ((n : Int) + 1)) :
    Calls Try.prog 29 #[.int .i64 y, .int .i64 ((n : Int) + 1), .int .i64 d] w fun e w' => e = .returned (.tuple #[.int .i64 (num y ((n : Int) + 1) d), .int .i64 0]) ∧ w = w' := by
  have d1 : decide (y < 1) = false := by simpa using h1
  have d2 : decide (9999 < y) = false := by simpa using h2
  have d3 : decide ((n : Int) + 1 < 1) = false := by simp; omega
  have d4 : decide (12 < (n : Int) + 1) = false := by simp; omega
  have d5 : decide (d < 1) = false := by simpa using h5
  have d6 : decide (mlen y ((n : Int) + 1) < d) = false := by simpa using h6
  have n0 : (n : Int) < 12 := by omega
  have B := mlen_bd y ((n : Int) + 1)
  have A := ahead_bd y h1 (by omega)
  go_enter Try.func29, Try.ntmps29
  go_wp2_with (first | (go_at_call 25; refine (days_any _ _ _ (by omega) (by omega)).mono ?_; rintro e w' ⟨rfl, rfl⟩) | (go_at_call 24; refine (aheadR_any _ _ (by omega) (by omega)).mono ?_; rintro e w' ⟨rfl, rfl⟩))
  go_loop [8, 9] (fun t8 t9 => ∃ k : Nat, k ≤ n ∧ t8 = .int .i64 (-719162 + ahead y + cum y ((k : Int) + 1)) ∧ t9 = .int .i64 ((k : Int) + 1)) (fun _ t9 => n + 1 - (intOf t9).toNat)
  case atStart => exact ⟨0, by omega, int_eq (by have := cum_one y; simp [this]), rfl⟩
  case round =>
    obtain ⟨k, hk, rfl, rfl⟩ := hrel
    have B1 := cum_bd y ((k : Int) + 1) (by omega) (by omega)
    by_cases hlt : k < n
    · have S := Lib.hid (cum_succ y ((k : Int) + 1) (by omega) (by omega))
      have M := mlen_bd y ((k : Int) + 1)
      have hki : (k : Int) < n := by omega
      go_wp2_with (go_at_call 25; refine (days_any _ _ _ (by omega) (by omega)).mono ?_; rintro e w' ⟨rfl, rfl⟩)
      go_round
      case rel => exact ⟨k + 1, by omega, int_eq (by have := S.out; rw [show ((k + 1 : Nat) : Int) = (k : Int) + 1 by omega]; omega), by go_num⟩
      case measure => simp [intOf]; omega
    · obtain rfl : k = n := by omega
      go_wp2
      go_ret2
      exact ⟨ret_two (by unfold num; omega) rfl, rfl⟩

theorem ofR_any (y m d : Int) (w : World) :
    Calls Try.prog 29 #[.int .i64 y, .int .i64 m, .int .i64 d] w fun e w' => e = .returned (.tuple #[.int .i64 (ofP y m d).1, .int .i64 (ofP y m d).2]) ∧ w = w' := by
  by_cases h : Valid y m d
  · rw [ofP_yes y m d h]
    obtain ⟨h1, h2, h3, h4, h5, h6⟩ := h
    obtain ⟨n, rfl⟩ : ∃ n : Nat, m = (n : Int) + 1 := ⟨(m - 1).toNat, by omega⟩
    exact ofR_yes y d n w h1 h2 (by omega) h5 h6
  · rw [ofP_no y m d h]
    exact ofR_no y m d w h

end Go.Proofs.Ytfcgmhkfehcdaaa
