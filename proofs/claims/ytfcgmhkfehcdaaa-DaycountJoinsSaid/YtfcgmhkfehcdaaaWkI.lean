/-
  Walks: the days that come back, by the program.
-/
import Derived.Test.YtfcgmhkfehcdaaaList
import Derived.Test.YtfcgmhkfehcdaaaWkF
namespace Go.Proofs.Ytfcgmhkfehcdaaa
open Go.RowKit

/-- The day that comes i steps and one behind a date, and the error. -/
def dueP (y m d s : Int) (i : Nat) : Int × Int := addP y m d (((i : Int) + 1) * s)
def dueRow (y m d s : Int) (k : Nat) (j : Nat) : Value := .int .i64 (if j < k then (dueP y m d s j).1 else 0)

/-- How many, as the document allows. -/
def Many (s n : Int) : Prop := 1 ≤ s ∧ s ≤ 120 ∧ 0 ≤ n ∧ n ≤ 480
theorem step_bd (s : Int) (i : Nat) (s0 : 1 ≤ s) (s1 : s ≤ 120) (h : i < 480) : 1 ≤ ((i : Int) + 1) * s ∧ ((i : Int) + 1) * s ≤ 57600 := by
  have h1 : (0 : Int) ≤ (i : Int) + 1 := by omega
  have a := Int.mul_le_mul_of_nonneg_left s0 h1
  have b := Int.mul_le_mul_of_nonneg_left s1 h1
  omega

set_option maxHeartbeats 400000 in
theorem dues_range (a s n : Int) (w : World) (h : ¬ Many s n) :
    Calls Try.prog 9 #[.int .i64 a, .int .i64 s, .int .i64 n] w fun e w' => e = .returned (.tuple #[.slice none 0 0, .int .i64 2]) ∧ w = w' := by
  by_cases h0 : s < 1
  · clear h
    go_enter Try.func9, Try.ntmps9
    go_wp2
    go_ret2
    exact ⟨rfl, rfl⟩
  · have h0' : decide (s < 1) = false := by simpa using h0
    by_cases h1 : 120 < s
    · clear h
      go_enter Try.func9, Try.ntmps9
      go_wp2
      go_ret2
      exact ⟨rfl, rfl⟩
    · have h1' : decide (120 < s) = false := by simpa using h1
      by_cases h2 : n < 0
      · clear h
        go_enter Try.func9, Try.ntmps9
        go_wp2
        go_ret2
        exact ⟨rfl, rfl⟩
      · have h2' : decide (n < 0) = false := by simpa using h2
        have h3 : 480 < n := by unfold Many at h; omega
        clear h
        go_enter Try.func9, Try.ntmps9
        go_wp2
        go_ret2
        exact ⟨rfl, rfl⟩

set_option maxHeartbeats 400000 in
theorem dues_date (a s n : Int) (w : World) (h : Many s n) (g : ¬ (-719162 ≤ a ∧ a ≤ 2932896)) :
    Calls Try.prog 9 #[.int .i64 a, .int .i64 s, .int .i64 n] w fun e w' => e = .returned (.tuple #[.slice none 0 0, .int .i64 6]) ∧ w = w' := by
  obtain ⟨h0, h1, h2, h3⟩ := h
  have h0' : decide (s < 1) = false := by simpa using h0
  have h1' : decide (120 < s) = false := by simpa using h1
  have h2' : decide (n < 0) = false := by simpa using h2
  have h3' : decide (480 < n) = false := by simpa using h3
  have S := Lib.hid (fun w => isStretch_any a a w)
  rw [decide_eq_false (fun s => g ⟨s.1, s.2.2⟩)] at S
  clear g
  go_enter Try.func9, Try.ntmps9
  go_wp2_with (go_at_call 14; refine (S.out _).mono ?_; rintro e w2 ⟨rfl, rfl⟩)
  go_ret2
  exact ⟨rfl, rfl⟩

set_option maxRecDepth 100000 in
set_option maxHeartbeats 1000000 in
theorem dues_ok (y m d s : Int) (n : Nat) (w : World) (v : Valid y m d) (s0 : 1 ≤ s) (s1 : s ≤ 120) (n1 : n ≤ 480) (hall : ∀ i, i < n → (dueP y m d s i).2 = 0) :
    Calls Try.prog 9 #[.int .i64 (num y m d), .int .i64 s, .int .i64 n] w (Res w n (fun i => (dueP y m d s i).1) 0) := by
  obtain ⟨i0, hi, hz0, hz1, hz2⟩ := info_parts info3
  have AD := Lib.hid (fun k w h0 h1 => add_yes y m d k w v h0 h1)
  have S := Lib.hid (fun w => isStretch_any (num y m d) (num y m d) w)
  rw [decide_eq_true ⟨(num_in y m d v).1, Int.le_refl _, (num_in y m d v).2⟩] at S
  generalize num y m d = a at AD S ⊢
  have HA := Lib.hid hall
  have h0' : decide (s < 1) = false := by simpa using s0
  have h1' : decide (120 < s) = false := by simpa using s1
  have h2' : decide ((n : Int) < 0) = false := by simp
  have h3' : decide (480 < (n : Int)) = false := by simp; omega
  clear hall
  go_enter Try.func9, Try.ntmps9
  go_wp2_with (first | (go_at_call 14; refine (S.out _).mono ?_; rintro e w2 ⟨rfl, rfl⟩) | (at_make; refine wpList_make_row _ rfl _ _ 29 rfl 3 i0 (.int .i64 0) Try.underlying29 hi hz0 hz1 rfl .i64 .i64 n rfl rfl (by rw [hz2]; omega) (by omega) ?_))
  go_loopw [34] (fun t34 wr => ∃ k : Nat, k ≤ n ∧ t34 = .int .i64 k ∧ wr.rowIs w.heap.size 3 n (dueRow y m d s k) ∧ Below w.heap.size w wr) (fun t34 _ => n - (intOf t34).toNat)
  case atStart => exact ⟨0, by omega, rfl, (World.rowIs_made w (.int .i64 0) n 3).congr fun i hi => by unfold dueRow; rw [if_neg (by omega)], (Below.refl _ _).alloc (Nat.le_refl _) _⟩
  case round =>
    obtain ⟨k, hk, rfl, r1, hbl⟩ := hrel
    by_cases hlt : k < n
    · obtain ⟨p0, p1⟩ := step_bd s k s0 s1 (by omega)
      have DP := HA.out k hlt
      have DE : Hid (dueP y m d s k = addP y m d (((k : Int) + 1) * s)) := Lib.hid rfl
      obtain ⟨p, hp⟩ : ∃ p, ((k : Int) + 1) * s = p := ⟨_, rfl⟩
      rw [hp] at p0 p1 DE
      have A1 := Lib.hid (fun w => AD.out p w (by omega) (by omega))
      rw [← DE.out, DP] at A1
      obtain ⟨x, hx⟩ : ∃ x, (dueP y m d s k).1 = x := ⟨_, rfl⟩
      rw [hx] at A1
      have HX := Lib.hid hx
      have R1 := Lib.hid r1
      have hki : (k : Int) < n := by omega
      have hk9 : (k : Int) < 480 := by omega
      clear r1 DP DE hx
      go_wp2_with (go_at_call 17; refine (A1.out _).mono ?_; rintro e w3 ⟨rfl, hb3⟩; have R3 := Lib.hid (row_kept R1.out hb3); have c3 := R3.out.cell hlt; have f3 := R3.out.frozen k)
      go_roundw
      case rel =>
        refine ⟨k + 1, by omega, by go_num, (R3.out.set k _).congr fun j hj => ?_, (below_then hbl hb3).setCell (Nat.le_refl _) _⟩
        unfold dueRow
        by_cases e : j = k
        · subst e
          rw [if_pos rfl, if_pos (by omega), HX.out]
        · rw [if_neg e]
          by_cases g : j < k
          · rw [if_pos g, if_pos (by omega)]
          · rw [if_neg g, if_neg (by omega)]
      case measure => simp [intOf]; omega
    · obtain rfl : k = n := by omega
      have R1 := Lib.hid r1
      clear r1
      go_wp2
      go_ret2
      refine ⟨_, _, rfl, .inr ⟨_, rfl, Nat.le_refl _, R1.out.lt, fun i hi => ?_⟩, hbl⟩
      rw [R1.out.cell hi]
      unfold dueRow
      rw [if_pos hi]

set_option maxRecDepth 100000 in
set_option maxHeartbeats 1000000 in
theorem dues_stop (y m d s : Int) (n j0 : Nat) (w : World) (v : Valid y m d) (s0 : 1 ≤ s) (s1 : s ≤ 120) (n1 : n ≤ 480) (hj : j0 < n) (hstop : (dueP y m d s j0).2 = 6) (hall : ∀ i, i < j0 → (dueP y m d s i).2 = 0) :
    Calls Try.prog 9 #[.int .i64 (num y m d), .int .i64 s, .int .i64 n] w fun e w' => e = .returned (.tuple #[.slice none 0 0, .int .i64 6]) ∧ Below w.heap.size w w' := by
  obtain ⟨i0, hi, hz0, hz1, hz2⟩ := info_parts info3
  have AD := Lib.hid (fun k w h0 h1 => add_yes y m d k w v h0 h1)
  have S := Lib.hid (fun w => isStretch_any (num y m d) (num y m d) w)
  rw [decide_eq_true ⟨(num_in y m d v).1, Int.le_refl _, (num_in y m d v).2⟩] at S
  generalize num y m d = a at AD S ⊢
  have HA := Lib.hid hall
  have HS := Lib.hid hstop
  have h0' : decide (s < 1) = false := by simpa using s0
  have h1' : decide (120 < s) = false := by simpa using s1
  have h2' : decide ((n : Int) < 0) = false := by simp
  have h3' : decide (480 < (n : Int)) = false := by simp; omega
  clear hall hstop
  go_enter Try.func9, Try.ntmps9
  go_wp2_with (first | (go_at_call 14; refine (S.out _).mono ?_; rintro e w2 ⟨rfl, rfl⟩) | (at_make; refine wpList_make_row _ rfl _ _ 29 rfl 3 i0 (.int .i64 0) Try.underlying29 hi hz0 hz1 rfl .i64 .i64 n rfl rfl (by rw [hz2]; omega) (by omega) ?_))
  go_loopw [34] (fun t34 wr => ∃ k : Nat, k ≤ j0 ∧ t34 = .int .i64 k ∧ wr.rowIs w.heap.size 3 n (dueRow y m d s k) ∧ Below w.heap.size w wr) (fun t34 _ => n - (intOf t34).toNat)
  case atStart => exact ⟨0, by omega, rfl, (World.rowIs_made w (.int .i64 0) n 3).congr fun i hi => by unfold dueRow; rw [if_neg (by omega)], (Below.refl _ _).alloc (Nat.le_refl _) _⟩
  case round =>
    obtain ⟨k, hk, rfl, r1, hbl⟩ := hrel
    by_cases hlt : k < j0
    · obtain ⟨p0, p1⟩ := step_bd s k s0 s1 (by omega)
      have DP := HA.out k hlt
      have DE : Hid (dueP y m d s k = addP y m d (((k : Int) + 1) * s)) := Lib.hid rfl
      obtain ⟨p, hp⟩ : ∃ p, ((k : Int) + 1) * s = p := ⟨_, rfl⟩
      rw [hp] at p0 p1 DE
      have A1 := Lib.hid (fun w => AD.out p w (by omega) (by omega))
      rw [← DE.out, DP] at A1
      obtain ⟨x, hx⟩ : ∃ x, (dueP y m d s k).1 = x := ⟨_, rfl⟩
      rw [hx] at A1
      have HX := Lib.hid hx
      have R1 := Lib.hid r1
      have hki : (k : Int) < n := by omega
      have hk9 : (k : Int) < 480 := by omega
      clear r1 DP DE hx
      go_wp2_with (go_at_call 17; refine (A1.out _).mono ?_; rintro e w3 ⟨rfl, hb3⟩; have R3 := Lib.hid (row_kept R1.out hb3); have c3 := R3.out.cell (i := k) (by omega); have f3 := R3.out.frozen k)
      go_roundw
      case rel =>
        refine ⟨k + 1, by omega, by go_num, (R3.out.set k _).congr fun j hj => ?_, (below_then hbl hb3).setCell (Nat.le_refl _) _⟩
        unfold dueRow
        by_cases e : j = k
        · subst e
          rw [if_pos rfl, if_pos (by omega), HX.out]
        · rw [if_neg e]
          by_cases g : j < k
          · rw [if_pos g, if_pos (by omega)]
          · rw [if_neg g, if_neg (by omega)]
      case measure => simp [intOf]; omega
    · obtain rfl : k = j0 := by omega
      obtain ⟨p0, p1⟩ := step_bd s k s0 s1 (by omega)
      have DP := HS.out
      have DE : Hid (dueP y m d s k = addP y m d (((k : Int) + 1) * s)) := Lib.hid rfl
      obtain ⟨p, hp⟩ : ∃ p, ((k : Int) + 1) * s = p := ⟨_, rfl⟩
      rw [hp] at p0 p1 DE
      have A1 := Lib.hid (fun w => AD.out p w (by omega) (by omega))
      rw [← DE.out, DP] at A1
      generalize (dueP y m d s k).1 = x at A1
      have hki : (k : Int) < n := by omega
      have hk9 : (k : Int) < 480 := by omega
      clear r1 DP DE
      go_wp2_with (go_at_call 17; refine (A1.out _).mono ?_; rintro e w3 ⟨rfl, hb3⟩)
      go_ret2
      exact ⟨rfl, below_then hbl hb3⟩

end Go.Proofs.Ytfcgmhkfehcdaaa
