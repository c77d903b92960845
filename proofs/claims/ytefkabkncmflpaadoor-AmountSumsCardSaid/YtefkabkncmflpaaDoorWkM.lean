/-
  Walks over twenty digits: Size, Back.
-/
import Derived.Test.YtefkabkncmflpaaDoorWkN
namespace Go.Proofs.YtefkabkncmflpaaDoor
open Go.RowKit

theorem below_new {w w' : World} {o : Obj} (hb : Below (w.alloc o).heap.size (w.alloc o) w') : Below w.heap.size w w' := ((Below.refl _ _).alloc (Nat.le_refl _) o).trans (hb.mono (by simp))
theorem row_kept {w w' : World} {b t n : Nat} {f : Nat → Value} (h : w.rowIs b t n f) (hb : Below w.heap.size w w') : w'.rowIs b t n f := row_below h hb h.lt

set_option maxHeartbeats 400000 in
theorem refSize_any (v : Int) (w : World) (h0 : -9223372036854775808 ≤ v) (h1 : v ≤ 9223372036854775807) :
    Calls Tryd.prog 35 #[.int .i64 v] w fun e w' => e = .returned (.agg (nat20 (ofD (size v)))) ∧ Below w.heap.size w w' := by
  by_cases hv : 0 ≤ v
  · rw [show size v = v by unfold size; omega]
    go_enter Tryd.func35, Tryd.ntmps35
    go_wp2_with fail
    rw [zeros20]
    refine (of_any _ _ hv (by omega)).mono ?_
    rintro e w' ⟨rfl, hb⟩
    have r5 := row_of _ _ _ (row_kept (row_new w fun _ => 0) hb)
    go_wp2_with (with_reducible refine wpList_store_row rfl 58 _ _ rfl w.heap.size _ rfl rfl 58 _ r5 (by kernel_rfl) (by kernel_rfl) (by kernel_rfl) ?_)
    exact bodyPost_ret (v := .agg (nat20 (ofD v))) (ret20 rfl _ _ _ _ _ rfl r5) rfl ⟨rfl, below_setRow (below_new hb) (Nat.le_refl _) _⟩
  · rw [show size v = -v by unfold size; omega]
    go_enter Tryd.func35, Tryd.ntmps35
    go_wp2_with fail
    rw [zeros20, show -(v + 1) + 1 = -v by omega]
    refine (of_any _ _ (by omega) (by omega)).mono ?_
    rintro e w' ⟨rfl, hb⟩
    have r5 := row_of _ _ _ (row_kept (row_new w fun _ => 0) hb)
    go_wp2_with (with_reducible refine wpList_store_row rfl 58 _ _ rfl w.heap.size _ rfl rfl 58 _ r5 (by kernel_rfl) (by kernel_rfl) (by kernel_rfl) ?_)
    exact bodyPost_ret (v := .agg (nat20 (ofD (-v)))) (ret20 rfl _ _ _ _ _ rfl r5) rfl ⟨rfl, below_setRow (below_new hb) (Nat.le_refl _) _⟩

/-! Back -/
theorem val_high (f : Nat → Int) (h : InR f) (k : Nat) (hk : 4 ≤ k) (hk2 : k < 20) (hf : f k ≠ 0) : 18446744073709551616 ≤ val f 20 := by
  have p : ∀ n, 4 ≤ n → n ≤ 20 → (∀ i, i < n → 0 ≤ f i ∧ f i < 65536) → k < n → 18446744073709551616 ≤ val f n := by
    intro n
    induction n with
    | zero => intro h; omega
    | succ n ih =>
      intro h4 h20 hi hkn
      have hp : (65536 : Int) ^ 4 ≤ 65536 ^ n ∨ n < 4 := by
        by_cases h : n < 4
        · exact Or.inr h
        · left
          obtain ⟨m, rfl⟩ : ∃ m, n = 4 + m := ⟨n - 4, by omega⟩
          rw [Int.pow_add]
          have := pow_pos16 m
          have : (65536 : Int) ^ 4 * 1 ≤ 65536 ^ 4 * 65536 ^ m := Int.mul_le_mul_of_nonneg_left (by omega) (by decide)
          omega
      have hp4 : (65536 : Int) ^ 4 = 18446744073709551616 := by decide
      have v0 := val_bd n (fun i h => hi i (by omega))
      have fn := hi n (by omega)
      have pn := pow_pos16 n
      rw [val]
      have q0 : 0 ≤ f n * 65536 ^ n := Int.mul_nonneg fn.1 (by omega)
      by_cases e : k = n
      · subst e
        have : 1 * 65536 ^ k ≤ f k * 65536 ^ k := Int.mul_le_mul_of_nonneg_right (by omega) (by omega)
        omega
      · have := ih (by omega) (by omega) (fun i h => hi i (by omega)) (by omega)
        omega
  exact p 20 (by omega) (by omega) h hk2
theorem val_low (f : Nat → Int) (_h : InR f) (hz : ∀ i, 4 ≤ i → i < 20 → f i = 0) : val f 20 = f 0 + 65536 * (f 1 + 65536 * (f 2 + 65536 * f 3)) := by
  have e : ∀ m, 4 + m ≤ 20 → val f (4 + m) = val f 4 := by
    intro m
    induction m with
    | zero => intro _; rfl
    | succ m ih => intro hm; rw [← Nat.add_assoc, val, ih (by omega), hz (4 + m) (by omega) (by omega)]; simp
  rw [e 16 (by omega)]
  simp [val]
  omega

/-- A size back with its sign; false: it is no int64. -/
def backV (q : Int) (neg : Bool) : Int × Bool := if neg then (if q ≤ 9223372036854775808 then (-q, true) else (0, false)) else (if q ≤ 9223372036854775807 then (q, true) else (0, false))

theorem ret_ib {k : IntKind} {a b : Int} {c d : Bool} (h : a = b) (g : c = d) : Ending.returned (.tuple #[.int k a, .bool c]) = .returned (.tuple #[.int k b, .bool d]) := by rw [h, g]

set_option maxRecDepth 100000 in
set_option maxHeartbeats 1000000 in
theorem back_any (f : Nat → Int) (neg : Bool) (w : World) (hf : InR f) :
    Calls Tryd.prog 32 #[.agg (nat20 f), .bool neg] w fun e w' => e = .returned (.tuple #[.int .i64 (backV (val f 20) neg).1, .bool (backV (val f 20) neg).2]) ∧ Below w.heap.size w w' := by
  go_enter Tryd.func32, Tryd.ntmps32
  go_wp2_with fail
  go_loop [6] (fun t6 => ∃ k : Nat, 4 ≤ k ∧ k ≤ 20 ∧ t6 = .int .i64 k ∧ Hid (∀ i, 4 ≤ i → i < k → f i = 0)) (fun t6 => 20 - (intOf t6).toNat)
  case atStart => exact ⟨4, by omega, by omega, rfl, (show ∀ i, 4 ≤ i → i < 4 → f i = 0 from fun i h1 h2 => absurd h1 (by omega))⟩
  case round =>
    obtain ⟨k, hk4, hk, rfl, hz⟩ := hrel
    by_cases hlt : k < 20
    · have c1 := (row_new w f).cell hlt
      simp only [dig] at c1
      by_cases h0 : f k = 0
      · rw [h0] at c1
        have HZ := Lib.hid (show ∀ i, 4 ≤ i → i < k + 1 → f i = 0 from fun i h1 h2 => by
          by_cases e : i = k
          · rw [e]; exact h0
          · exact hz.out i h1 (by omega))
        clear h0 hz
        go_wp2
        go_round
        case rel => exact ⟨k + 1, by omega, by omega, by go_num, HZ⟩
        case measure => simp [intOf]; omega
      · have hb := val_high f hf k hk4 hlt h0
        have F : Hid (backV (val f 20) neg = (0, false)) := by
          show _ = _
          unfold backV
          cases neg
          · rw [if_neg (by decide), if_neg (by omega)]
          · rw [if_pos rfl, if_neg (by omega)]
        have h0' : (f k != 0) = true := by simpa using h0
        generalize f k = x at *
        clear hb h0
        go_wp2
        go_ret2
        exact ⟨by rw [F.out]; rfl, (Below.refl _ _).alloc (Nat.le_refl _) _⟩
    · obtain rfl : k = 20 := by omega
      have hv := val_low f hf hz.out
      have c0 := (row_new w f).cell (i := 0) (by omega)
      have c1 := (row_new w f).cell (i := 1) (by omega)
      have c2 := (row_new w f).cell (i := 2) (by omega)
      have c3 := (row_new w f).cell (i := 3) (by omega)
      simp only [dig] at c0 c1 c2 c3
      have ⟨a0, b0⟩ := hf 0 (by omega)
      have ⟨a1, b1⟩ := hf 1 (by omega)
      have ⟨a2, b2⟩ := hf 2 (by omega)
      have ⟨a3, b3⟩ := hf 3 (by omega)
      have HV := Lib.hid hv
      clear hv hz
      generalize f 0 = x0 at *
      generalize f 1 = x1 at *
      generalize f 2 = x2 at *
      generalize f 3 = x3 at *
      obtain ⟨q, hq⟩ : ∃ q, x0 + 65536 * (x1 + 65536 * (x2 + 65536 * x3)) = q := ⟨_, rfl⟩
      have q0 : 0 ≤ q := by omega
      have q1 : q < 18446744073709551616 := by omega
      have HQ := Lib.hid (show val f 20 = q by rw [HV.out]; exact hq)
      cases neg
      · by_cases hb : q ≤ 9223372036854775807
        · have F := Lib.hid (show backV q false = (q, true) by unfold backV; rw [if_neg (by decide), if_pos hb])
          go_wp2
          go_ret2
          exact ⟨by rw [HQ.out, F.out]; rfl, (Below.refl _ _).alloc (Nat.le_refl _) _⟩
        · have F := Lib.hid (show backV q false = (0, false) by unfold backV; rw [if_neg (by decide), if_neg hb])
          go_wp2
          go_ret2
          exact ⟨by rw [HQ.out, F.out]; rfl, (Below.refl _ _).alloc (Nat.le_refl _) _⟩
      · by_cases hb : q ≤ 9223372036854775808
        · have F := Lib.hid (show backV q true = (-q, true) by unfold backV; rw [if_pos rfl, if_pos hb])
          go_wp2
          go_ret2
          exact ⟨by rw [HQ.out, F.out]; exact ret_ib (back_neg q q0 hb) rfl, (Below.refl _ _).alloc (Nat.le_refl _) _⟩
        · have F := Lib.hid (show backV q true = (0, false) by unfold backV; rw [if_pos rfl, if_neg hb])
          go_wp2
          go_ret2
          exact ⟨by rw [HQ.out, F.out]; rfl, (Below.refl _ _).alloc (Nat.le_refl _) _⟩

end Go.Proofs.YtefkabkncmflpaaDoor
