/-
  Walks: a day's date.
-/
import Derived.Test.YtfcgmhkfehcdaaaWkC
namespace Go.Proofs.Ytfcgmhkfehcdaaa
open Go.RowKit

theorem month_of (y r : Int) (h0 : 0 ≤ r) : ∀ k : Nat, k ≤ 11 → r < cum y ((k : Int) + 1) + mlen y ((k : Int) + 1) → ∃ m : Int, 1 ≤ m ∧ m ≤ 12 ∧ cum y m ≤ r ∧ r < cum y m + mlen y m
  | 0, _, h => ⟨1, by omega, by omega, by rw [cum_one]; exact h0, h⟩
  | k + 1, hk, h => by
    by_cases g : cum y ((k : Int) + 1 + 1) ≤ r
    · exact ⟨(k : Int) + 1 + 1, by omega, by omega, g, h⟩
    · rw [cum_succ y ((k : Int) + 1) (by omega) (by omega)] at g
      exact month_of y r h0 k (by omega) (by omega)
theorem year_of (n : Int) (h0 : 0 ≤ n) : ∃ y, ahead y ≤ n ∧ n < ahead (y + 1) := by
  obtain ⟨q, hq⟩ : ∃ q, q = n * 400 / 146097 := ⟨_, rfl⟩
  have a := guess_lo n q h0 hq
  have b := guess_hi n q h0 hq
  by_cases hc : ahead (q + 1 + 1) ≤ n
  · exact ⟨q + 1 + 1, hc, by rw [show q + 1 + 1 + 1 = q + 3 by omega]; exact b⟩
  · exact ⟨q + 1, a, by omega⟩
/-- Every day has a date. -/
theorem date_of (n : Int) (h0 : -719162 ≤ n) (h1 : n ≤ 2932896) : ∃ y m d, Valid y m d ∧ num y m d = n := by
  obtain ⟨y, a, b⟩ := year_of (n + 719162) (by omega)
  obtain ⟨m, m0, m1, c0, c1⟩ := month_of y (n + 719162 - ahead y) (by omega) 11 (by omega) (by
    have := cum_end y
    rw [ahead_succ] at b
    rw [show ((11 : Nat) : Int) + 1 = 12 from rfl]; omega)
  obtain ⟨v, e⟩ := vld_of (n + 719162) y m (n + 719162 - ahead y - cum y m) (by omega) (by omega) a b m0 m1 rfl (by omega) (by omega)
  exact ⟨y, m, _, v, by omega⟩

set_option maxRecDepth 100000 in
set_option maxHeartbeats 400000 in
theorem split_no (n : Int) (w : World) (h : ¬ (-719162 ≤ n ∧ n ≤ 2932896)) :
    Calls Try.prog 26 #[.int .i64 n] w fun e w' => e = .returned (.tuple #[.int .i64 0, .int .i64 0, .int .i64 0, .int .i64 6]) ∧ w = w' := by
  have H := Lib.hid (fun w => isDay_any n w)
  rw [decide_eq_false h] at H
  clear h
  go_enter Try.func26, Try.ntmps26
  go_wp2_with (go_at_call 33; refine (H.out _).mono ?_; rintro e w' ⟨rfl, rfl⟩)
  exact bodyPost_ret (v := .tuple #[.int .i64 0, .int .i64 0, .int .i64 0, .int .i64 6]) (by simp [results, Try.results26, go_sem]) rfl ⟨rfl, rfl⟩

set_option maxRecDepth 100000 in
set_option maxHeartbeats 400000 in
theorem splitR_no (n : Int) (w : World) (h : ¬ (-719162 ≤ n ∧ n ≤ 2932896)) :
    Calls Try.prog 16 #[.int .i64 n] w fun e w' => e = .returned (.tuple #[.int .i64 0, .int .i64 0, .int .i64 0, .int .i64 6]) ∧ w = w' := by
  have H := Lib.hid (fun w => good_any n w)
  rw [decide_eq_false h] at H
  clear h
  go_enter Try.func16, Try.ntmps16
  go_wp2_with (go_at_call 15; refine (H.out _).mono ?_; rintro e w' ⟨rfl, rfl⟩)
  exact bodyPost_ret (v := .tuple #[.int .i64 0, .int .i64 0, .int .i64 0, .int .i64 6]) (by simp [results, Try.results16, go_sem]) rfl ⟨rfl, rfl⟩

/-- A date of that day. -/
def Dated (n : Int) (e : Ending) : Prop := ∃ y m d, Valid y m d ∧ num y m d = n ∧ e = .returned (.tuple #[.int .i64 y, .int .i64 m, .int .i64 d, .int .i64 0])
theorem Dated.is {y m d : Int} {e : Ending} (h : Dated (num y m d) e) (v : Valid y m d) : e = .returned (.tuple #[.int .i64 y, .int .i64 m, .int .i64 d, .int .i64 0]) := by
  obtain ⟨u, k, c, v', en, rfl⟩ := h
  obtain ⟨rfl, rfl, rfl⟩ := num_inj u k c y m d v' v en
  rfl

set_option maxRecDepth 100000 in
set_option maxHeartbeats 1000000 in
theorem split_in (n : Int) (w : World) (h0 : -719162 ≤ n) (h1 : n ≤ 2932896) :
    Calls Try.prog 26 #[.int .i64 n] w fun e w' => Dated n e ∧ Below w.heap.size w w' := by
  have H := Lib.hid (fun w => isDay_any n w)
  rw [decide_eq_true ⟨h0, h1⟩] at H
  go_enter Try.func26, Try.ntmps26
  go_wp2_with (first | (go_at_call 33; refine (H.out _).mono ?_; rintro e w' ⟨rfl, rfl⟩) | (go_at_call 34; refine (yearAfter_any _ _ (by omega) (by omega)).mono ?_; rintro e w' ⟨y, rfl, hy0, hy1, rfl⟩; obtain ⟨hyl, hyh⟩ := year_in _ y (by omega) (by omega) hy0 hy1; have hab := ahead_bd y hyl (by omega)) | (go_at_call 35; refine (daysAhead_any _ _ (by omega) (by omega)).mono ?_; rintro e w' ⟨rfl, rfl⟩) | (go_at_call 28; refine (monthLengths_any _ _ (by omega) (by omega)).mono ?_; unfold lens; rintro e w1 ⟨rfl, hb1⟩))
  have hb2 := Lib.hid (hb1.alloc hb1.size (.cells #[.int .i64 31, .int .i64 (28 + lp y), .int .i64 31, .int .i64 30, .int .i64 31, .int .i64 30, .int .i64 31, .int .i64 31, .int .i64 30, .int .i64 31, .int .i64 30, .int .i64 31] 55))
  have C1 := Lib.hid (fun k hk => lens_cell w1 y 55 k hk)
  unfold lens at C1
  have F := Lib.hid (fun m => rest_fit (n + 719162) y m hy1)
  have HY := Lib.hid (And.intro hy0 hy1)
  clear H hb1 hy1
  generalize w1.alloc (.cells #[.int .i64 31, .int .i64 (28 + lp y), .int .i64 31, .int .i64 30, .int .i64 31, .int .i64 30, .int .i64 31, .int .i64 31, .int .i64 30, .int .i64 31, .int .i64 30, .int .i64 31] 55) = w2 at C1 hb2 ⊢
  generalize w1.heap.size = g at C1 ⊢
  go_loop [6, 9] (fun t6 t9 => ∃ k : Nat, k < 12 ∧ t6 = .int .i64 (n + 719162 - ahead y - cum y ((k : Int) + 1)) ∧ 0 ≤ n + 719162 - ahead y - cum y ((k : Int) + 1) ∧ t9 = .int .i64 ((k : Int) + 1)) (fun _ t9 => 12 - (intOf t9).toNat)
  case atStart => exact ⟨0, by omega, int_eq (by have := cum_one y; simp [this]), by have := cum_one y; simp [this]; omega, rfl⟩
  case round =>
    obtain ⟨k, hk, rfl, hr, rfl⟩ := hrel
    have B1 := cum_bd y ((k : Int) + 1) (by omega) (by omega)
    have hc := C1.out k hk
    have hki : (k : Int) < 12 := by omega
    have M := mlen_bd y ((k : Int) + 1)
    by_cases hlt : mlen y ((k : Int) + 1) ≤ n + 719162 - ahead y - cum y ((k : Int) + 1)
    · have hk' : k < 11 := by
        apply Classical.byContradiction
        intro e
        have := F.out ((k : Int) + 1) (by omega) (by omega)
        omega
      have S := Lib.hid (cum_succ y ((k : Int) + 1) (by omega) (by omega))
      go_wp2
      go_round
      case rel => exact ⟨k + 1, by omega, int_eq (by have := S.out; rw [show ((k + 1 : Nat) : Int) = (k : Int) + 1 by omega]; omega), by have := S.out; rw [show ((k + 1 : Nat) : Int) = (k : Int) + 1 by omega]; omega, by go_num⟩
      case measure => simp [intOf]; omega
    · go_wp2
      obtain ⟨v, e⟩ := vld_of (n + 719162) y ((k : Int) + 1) (n + 719162 - ahead y - cum y ((k : Int) + 1)) (by omega) (by omega) HY.out.1 HY.out.2 (by omega) (by omega) rfl hr (by omega)
      exact bodyPost_ret (v := .tuple #[.int .i64 y, .int .i64 ((k : Int) + 1), .int .i64 (n + 719162 - ahead y - cum y ((k : Int) + 1) + 1), .int .i64 0]) (by simp [results, Try.results26, go_sem]) rfl ⟨⟨_, _, _, v, by omega, rfl⟩, hb2.out⟩

theorem split_yes (y m d : Int) (w : World) (v : Valid y m d) :
    Calls Try.prog 26 #[.int .i64 (num y m d)] w fun e w' => e = .returned (.tuple #[.int .i64 y, .int .i64 m, .int .i64 d, .int .i64 0]) ∧ Below w.heap.size w w' :=
  (split_in _ w (num_in y m d v).1 (num_in y m d v).2).mono fun _ _ h => ⟨h.1.is v, h.2⟩

theorem quo366 (n : Int) (h0 : 0 ≤ n) (h1 : n ≤ 3652058) : ahead (n / 366 + 1) ≤ n ∧ 0 ≤ n / 366 ∧ n / 366 ≤ 9978 := by unfold ahead; omega

set_option maxRecDepth 100000 in
set_option maxHeartbeats 1000000 in
theorem splitR_in (n : Int) (w : World) (h0 : -719162 ≤ n) (h1 : n ≤ 2932896) :
    Calls Try.prog 16 #[.int .i64 n] w fun e w' => Dated n e ∧ w = w' := by
  have H := Lib.hid (fun w => good_any n w)
  rw [decide_eq_true ⟨h0, h1⟩] at H
  obtain ⟨q0, q1, q2⟩ := quo366 (n + 719162) (by omega) (by omega)
  go_enter Try.func16, Try.ntmps16
  go_wp2_with (go_at_call 15; refine (H.out _).mono ?_; rintro e w' ⟨rfl, rfl⟩)
  go_loop [7] (fun t7 => ∃ y : Int, t7 = .int .i64 y ∧ 1 ≤ y ∧ ahead y ≤ n + 719162) (fun t7 => (10000 - intOf t7).toNat)
  case atStart => exact ⟨_, rfl, by omega, q0⟩
  case round =>
    obtain ⟨y, rfl, hy, ha⟩ := hrel
    clear q0 q1 q2 H
    have hyh : y ≤ 9999 := by
      apply Classical.byContradiction
      intro h
      have := ahead_mono 10000 y (by omega)
      have h4 : ahead 10000 = 3652059 := by decide
      omega
    have hab := ahead_bd y hy (by omega)
    have hab1 := ahead_bd (y + 1) (by omega) (by omega)
    by_cases hlt : ahead (y + 1) ≤ n + 719162
    · go_wp2_with (go_at_call 24; refine (aheadR_any _ _ (by omega) (by omega)).mono ?_; rintro e w' ⟨rfl, rfl⟩)
      go_round
      case rel => exact ⟨y + 1, rfl, by omega, hlt⟩
      case measure => simp [intOf]; omega
    · have hy1 : n + 719162 < ahead (y + 1) := by omega
      go_wp2_with (go_at_call 24; refine (aheadR_any _ _ (by omega) (by omega)).mono ?_; rintro e w' ⟨rfl, rfl⟩)
      have F := Lib.hid (fun m => rest_fit (n + 719162) y m hy1)
      have HY := Lib.hid (And.intro ha hy1)
      go_loop [6, 8] (fun t6 t8 => ∃ k : Nat, k < 12 ∧ t6 = .int .i64 (n + 719162 - ahead y - cum y ((k : Int) + 1)) ∧ 0 ≤ n + 719162 - ahead y - cum y ((k : Int) + 1) ∧ t8 = .int .i64 ((k : Int) + 1)) (fun _ t8 => 12 - (intOf t8).toNat)
      case atStart => exact ⟨0, by omega, int_eq (by have := cum_one y; simp [this]), by have := cum_one y; simp [this]; omega, rfl⟩
      case round =>
        obtain ⟨k, hk, rfl, hr, rfl⟩ := hrel
        have B1 := cum_bd y ((k : Int) + 1) (by omega) (by omega)
        have hki : (k : Int) < 12 := by omega
        have M := mlen_bd y ((k : Int) + 1)
        clear hlt hy1
        by_cases hlt : mlen y ((k : Int) + 1) ≤ n + 719162 - ahead y - cum y ((k : Int) + 1)
        · have hk' : k < 11 := by
            apply Classical.byContradiction
            intro e
            have := F.out ((k : Int) + 1) (by omega) (by omega)
            omega
          have S := Lib.hid (cum_succ y ((k : Int) + 1) (by omega) (by omega))
          go_wp2_with (go_at_call 25; refine (days_any _ _ _ (by omega) (by omega)).mono ?_; rintro e w' ⟨rfl, rfl⟩)
          go_round
          case rel => exact ⟨k + 1, by omega, int_eq (by have := S.out; rw [show ((k + 1 : Nat) : Int) = (k : Int) + 1 by omega]; omega), by have := S.out; rw [show ((k + 1 : Nat) : Int) = (k : Int) + 1 by omega]; omega, by go_num⟩
          case measure => simp [intOf]; omega
        · go_wp2_with (go_at_call 25; refine (days_any _ _ _ (by omega) (by omega)).mono ?_; rintro e w' ⟨rfl, rfl⟩)
          obtain ⟨v, e⟩ := vld_of (n + 719162) y ((k : Int) + 1) (n + 719162 - ahead y - cum y ((k : Int) + 1)) (by omega) (by omega) HY.out.1 HY.out.2 (by omega) (by omega) rfl hr (by omega)
          exact bodyPost_ret (v := .tuple #[.int .i64 y, .int .i64 ((k : Int) + 1), .int .i64 (n + 719162 - ahead y - cum y ((k : Int) + 1) + 1), .int .i64 0]) (by simp [results, Try.results16, go_sem]) rfl ⟨⟨_, _, _, v, by omega, rfl⟩, rfl⟩

theorem splitR_yes (y m d : Int) (w : World) (v : Valid y m d) :
    Calls Try.prog 16 #[.int .i64 (num y m d)] w fun e w' => e = .returned (.tuple #[.int .i64 y, .int .i64 m, .int .i64 d, .int .i64 0]) ∧ w = w' :=
  (splitR_in _ w (num_in y m d v).1 (num_in y m d v).2).mono fun _ _ h => ⟨h.1.is v, h.2⟩

end Go.Proofs.Ytfcgmhkfehcdaaa
