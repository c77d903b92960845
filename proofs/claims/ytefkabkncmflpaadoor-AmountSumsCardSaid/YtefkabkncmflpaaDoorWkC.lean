/-
  Walks: a quotient rounded, MulDiv, Interest.
-/
import Derived.Test.YtefkabkncmflpaaDoorWkB
namespace Go.Proofs.YtefkabkncmflpaaDoor
open Go.RowKit

theorem drewN_below (B : Nat) (w : World) (n : Nat) : Below B w (w.drewN n) := ⟨rfl, rfl, rfl, Nat.le_refl _, fun _ _ => rfl⟩
theorem below_then {w w1 w2 : World} (h : Below w.heap.size w w1) (k : Below w1.heap.size w1 w2) : Below w.heap.size w w2 := h.trans (k.mono h.size)

set_option maxHeartbeats 400000 in
theorem over_no (h l y : Int) (w : World) (_h0 : 0 ≤ h) (_h1 : h < 18446744073709551616) (_hy : 0 ≤ y) (hh : y ≤ h) :
    Calls Tryd.prog 51 #[.agg #[.int .u64 h, .int .u64 l], .int .u64 y] w fun e w' => e = .returned (.tuple #[.int .u64 0, .int .u64 0, .bool false]) ∧ Below w.heap.size w w' := by
  go_enter Tryd.func51, Tryd.ntmps51
  go_wp2_with fail
  go_ret3
  exact ⟨rfl, (Below.refl _ _).alloc (Nat.le_refl _) _⟩

set_option maxHeartbeats 400000 in
theorem over_yes (h l y : Int) (w : World) (h0 : 0 ≤ h) (l0 : 0 ≤ l) (l1 : l < 18446744073709551616) (hy : y < 18446744073709551616) (hh : h < y) :
    Calls Tryd.prog 51 #[.agg #[.int .u64 h, .int .u64 l], .int .u64 y] w fun e w' => e = .returned (.tuple #[.int .u64 ((h * 18446744073709551616 + l) / y), .int .u64 ((h * 18446744073709551616 + l) % y), .bool true]) ∧ Below w.heap.size w w' := by
  go_enter Tryd.func51, Tryd.ntmps51
  go_wp2_with (go_at_call 58; refine (div64_any _ _ _ _ hy l0 l1 h0 hh).mono ?_; rintro e w' ⟨rfl, n, rfl⟩)
  go_ret3
  exact ⟨rfl, ((Below.refl _ _).alloc (Nat.le_refl _) _).trans (drewN_below _ _ _)⟩

theorem sgnd_any (q : Int) (neg : Bool) (w : World) (h0 : 0 ≤ q) (h1 : q < 18446744073709551616) :
    Calls Tryd.prog 47 #[.int .u64 q, .bool neg] w fun e w' => e = .returned (.tuple #[.int .i64 (sgnd q neg).1, .int .i64 (sgnd q neg).2]) ∧ w = w' := by
  unfold sgnd
  cases neg
  · by_cases h : q ≤ 9223372036854775807
    · rw [if_neg (by decide), if_pos h]; exact signed_pos q w h0 h
    · rw [if_neg (by decide), if_neg h]; exact signed_pos_over q w (by omega) h1
  · by_cases h : q ≤ 9223372036854775808
    · rw [if_pos rfl, if_pos h]; exact signed_neg q w h0 h
    · rw [if_pos rfl, if_neg h]; exact signed_neg_over q w (by omega) h1

set_option maxHeartbeats 400000 in
theorem ratio_any (h l y : Int) (neg : Bool) (w : World) (h0 : 0 ≤ h) (h1 : h < 18446744073709551616) (l0 : 0 ≤ l) (l1 : l < 18446744073709551616) (y0 : 0 < y) (hy : y < 18446744073709551616) :
    Calls Tryd.prog 29 #[.agg #[.int .u64 h, .int .u64 l], .int .u64 y, .bool neg] w fun e w' => e = .returned (pairV (sgnd (even (h * 18446744073709551616 + l) y) neg)) ∧ Below w.heap.size w w' := by
  by_cases hh : y ≤ h
  · have hq : 9223372036854775808 < (h * 18446744073709551616 + l) / y := by
      have : 18446744073709551616 ≤ (h * 18446744073709551616 + l) / y := by
        apply (Int.le_ediv_iff_mul_le y0).2; omega
      omega
    rw [even_over _ _ _ (by omega) y0 hq]
    clear hq
    go_enter Tryd.func29, Tryd.ntmps29
    go_wp2_with (go_at_call 51; refine (over_no _ _ _ _ h0 h1 (by omega) hh).mono ?_; rintro e w' ⟨rfl, hb⟩)
    go_ret2
    exact ⟨rfl, ((Below.refl _ _).alloc (Nat.le_refl _) _).trans (hb.mono (by simp))⟩
  · have hq0 : 0 ≤ (h * 18446744073709551616 + l) / y := Int.ediv_nonneg (by omega) (by omega)
    have hq1 : (h * 18446744073709551616 + l) / y < 18446744073709551616 := Int.ediv_lt_of_lt_mul y0 (by omega)
    have hr0 : 0 ≤ (h * 18446744073709551616 + l) % y := Int.emod_nonneg _ (by omega)
    have hr1 : (h * 18446744073709551616 + l) % y < y := Int.emod_lt_of_pos _ y0
    have hov := even_over (h * 18446744073709551616 + l) y neg (by omega) y0
    have hev : even (h * 18446744073709551616 + l) y = if y < 2 * ((h * 18446744073709551616 + l) % y) ∨ (2 * ((h * 18446744073709551616 + l) % y) = y ∧ (h * 18446744073709551616 + l) / y % 2 = 1) then (h * 18446744073709551616 + l) / y + 1 else (h * 18446744073709551616 + l) / y := rfl
    have OV : Hid (∀ w1 : World, Calls Tryd.prog 51 #[.agg #[.int .u64 h, .int .u64 l], .int .u64 y] w1 fun e w' => e = .returned (.tuple #[.int .u64 ((h * 18446744073709551616 + l) / y), .int .u64 ((h * 18446744073709551616 + l) % y), .bool true]) ∧ Below w1.heap.size w1 w') :=
      fun w1 => over_yes h l y w1 h0 l0 l1 hy (by omega)
    generalize even (h * 18446744073709551616 + l) y = E at *
    generalize (h * 18446744073709551616 + l) / y = Q at *
    generalize (h * 18446744073709551616 + l) % y = R at *
    by_cases hbig : 9223372036854775808 < Q
    · rw [hov hbig]
      clear hov hev
      go_enter Tryd.func29, Tryd.ntmps29
      go_wp2_with (go_at_call 51; refine (OV.out _).mono ?_; rintro e w' ⟨rfl, hb⟩)
      go_ret2
      exact ⟨rfl, ((Below.refl _ _).alloc (Nat.le_refl _) _).trans (hb.mono (by simp))⟩
    · have hb1 : bits .and .u64 Q 1 = Q % 2 := bits_mask .u64 64 (by decide) (fun n h0 h1 => by rw [IntKind.wrap_u64]; omega) 1 (by decide) _ (by omega) (by omega)
      have q2 := Int.emod_nonneg Q (show (2 : Int) ≠ 0 by decide)
      have q3 := Int.emod_lt_of_pos Q (show (0 : Int) < 2 by decide)
      by_cases h2 : y < 2 * R
      · rw [if_pos (Or.inl h2)] at hev
        subst hev
        clear hov
        have t1 : y - R < R := by omega
        go_enter Tryd.func29, Tryd.ntmps29
        go_wp2_with (first | (go_at_call 51; refine (OV.out _).mono ?_; rintro e w' ⟨rfl, hb⟩) | (go_at_call 47; refine (sgnd_any _ _ _ (by omega) (by omega)).mono ?_; rintro e w' ⟨rfl, rfl⟩))
        go_ret2
        exact ⟨rfl, ((Below.refl _ _).alloc (Nat.le_refl _) _).trans (hb.mono (by simp))⟩
      · have t1 : R ≤ y - R := by omega
        by_cases h3 : 2 * R = y
        · have t2 : (R == y - R) = true := by simp; omega
          by_cases h4 : Q % 2 = 1
          · rw [if_pos (Or.inr ⟨h3, h4⟩)] at hev
            subst hev
            have t3 : (bits .and .u64 Q 1 == 1) = true := by rw [hb1]; simp [h4]
            clear hov hb1 h3 h4
            go_enter Tryd.func29, Tryd.ntmps29
            go_wp2_with (first | (go_at_call 51; refine (OV.out _).mono ?_; rintro e w' ⟨rfl, hb⟩) | (go_at_call 47; refine (sgnd_any _ _ _ (by omega) (by omega)).mono ?_; rintro e w' ⟨rfl, rfl⟩))
            go_ret2
            exact ⟨rfl, ((Below.refl _ _).alloc (Nat.le_refl _) _).trans (hb.mono (by simp))⟩
          · rw [if_neg (by omega)] at hev
            subst hev
            have t3 : (bits .and .u64 E 1 == 1) = false := by rw [hb1]; simp [h4]
            clear hov hb1 h3 h4
            go_enter Tryd.func29, Tryd.ntmps29
            go_wp2_with (first | (go_at_call 51; refine (OV.out _).mono ?_; rintro e w' ⟨rfl, hb⟩) | (go_at_call 47; refine (sgnd_any _ _ _ (by omega) (by omega)).mono ?_; rintro e w' ⟨rfl, rfl⟩))
            go_ret2
            exact ⟨rfl, ((Below.refl _ _).alloc (Nat.le_refl _) _).trans (hb.mono (by simp))⟩
        · rw [if_neg (by omega)] at hev
          subst hev
          have t2 : (R == y - R) = false := by simp; omega
          clear hov hb1
          go_enter Tryd.func29, Tryd.ntmps29
          go_wp2_with (first | (go_at_call 51; refine (OV.out _).mono ?_; rintro e w' ⟨rfl, hb⟩) | (go_at_call 47; refine (sgnd_any _ _ _ (by omega) (by omega)).mono ?_; rintro e w' ⟨rfl, rfl⟩))
          go_ret2
          exact ⟨rfl, ((Below.refl _ _).alloc (Nat.le_refl _) _).trans (hb.mono (by simp))⟩

theorem size_is (a : Int) (w : World) (h0 : -9223372036854775808 ≤ a) (h1 : a ≤ 9223372036854775807) :
    Calls Tryd.prog 31 #[.int .i64 a] w fun e w' => e = .returned (.int .u64 (size a)) ∧ w = w' := size_any a w h0 h1

set_option maxHeartbeats 400000 in
theorem mulDiv_any (a b c : Int) (w : World) (ha : -9223372036854775808 ≤ a) (ha' : a ≤ 9223372036854775807) (hb : -9223372036854775808 ≤ b) (hb' : b ≤ 9223372036854775807) (hc : -9223372036854775808 ≤ c) (hc' : c ≤ 9223372036854775807) :
    Calls Tryd.prog 16 #[.int .i64 a, .int .i64 b, .int .i64 c] w fun e w' => e = .returned (pairV (mulDiv a b c)) ∧ Below w.heap.size w w' := by
  by_cases hz : c = 0
  · subst hz
    rw [show mulDiv a b 0 = (0, 5) from rfl]
    go_enter Tryd.func16, Tryd.ntmps16
    go_wp2
    go_ret2
    exact ⟨rfl, Below.refl _ _⟩
  · have hz' : (c == 0) = false := by simp [hz]
    have hm : mulDiv a b c = sgnd (even (size a * size b) (size c)) (negs a b c) := by unfold mulDiv; rw [if_neg hz]
    rw [hm]
    obtain ⟨ng, hng⟩ : ∃ ng, ((decide (a < 0) != decide (b < 0)) != decide (c < 0)) = ng := ⟨_, rfl⟩
    rw [show negs a b c = ng from hng]
    have a0 := size_nonneg a
    have b0 := size_nonneg b
    have c0 := size_pos' c hz
    have a1 := size_le a ha ha'
    have b1 := size_le b hb hb'
    have c1 := size_le c hc hc'
    clear hm hz
    go_enter Tryd.func16, Tryd.ntmps16
    go_wp2_with (first | (go_at_call 31; refine (size_is _ _ (by omega) (by omega)).mono ?_; rintro e w' ⟨rfl, rfl⟩) | (go_at_call 30; refine (times_any _ _ _ a0 (by omega) b0 (by omega)).mono ?_; rintro e w' ⟨h, l, rfl, hml, h0, h1, l0, l1, hb1⟩; have HML := Lib.hid hml; clear hml) | (go_at_call 29; refine (ratio_any _ _ _ _ _ h0 h1 l0 l1 c0 (by omega)).mono ?_; rintro e w' ⟨rfl, hb2⟩))
    go_ret2
    exact ⟨by rw [HML.out]; first | rfl | (rw [← hng]; rfl), below_then hb1 hb2⟩

set_option maxHeartbeats 400000 in
theorem interest_money (p rate num den : Int) (w : World) (h : p < -1000000000000000 ∨ 1000000000000000 < p) :
    Calls Tryd.prog 18 #[.int .i64 p, .int .i64 rate, .int .i64 num, .int .i64 den] w fun e w' => e = .returned (.tuple #[.int .i64 0, .int .i64 2]) ∧ w = w' := by
  go_enter Tryd.func18, Tryd.ntmps18
  go_wp2_with (go_at_call 36; refine (isMoney_no _ _ h).mono ?_; rintro e w' ⟨rfl, rfl⟩)
  go_ret2
  exact ⟨rfl, rfl⟩

set_option maxHeartbeats 400000 in
theorem interest_no2 (p rate num den : Int) (w : World) (g0 : -1000000000000000 ≤ p) (g1 : p ≤ 1000000000000000) (h : rate < 0) :
    Calls Tryd.prog 18 #[.int .i64 p, .int .i64 rate, .int .i64 num, .int .i64 den] w fun e w' => e = .returned (.tuple #[.int .i64 0, .int .i64 2]) ∧ w = w' := by
  go_enter Tryd.func18, Tryd.ntmps18
  go_wp2_with (go_at_call 36; refine (isMoney_yes _ _ g0 g1).mono ?_; rintro e w' ⟨rfl, rfl⟩)
  go_ret2
  exact ⟨rfl, rfl⟩

set_option maxHeartbeats 400000 in
theorem interest_no3 (p rate num den : Int) (w : World) (g0 : -1000000000000000 ≤ p) (g1 : p ≤ 1000000000000000) (g2 : 0 ≤ rate) (h : 1000000000 < rate) :
    Calls Tryd.prog 18 #[.int .i64 p, .int .i64 rate, .int .i64 num, .int .i64 den] w fun e w' => e = .returned (.tuple #[.int .i64 0, .int .i64 2]) ∧ w = w' := by
  go_enter Tryd.func18, Tryd.ntmps18
  go_wp2_with (go_at_call 36; refine (isMoney_yes _ _ g0 g1).mono ?_; rintro e w' ⟨rfl, rfl⟩)
  go_ret2
  exact ⟨rfl, rfl⟩

set_option maxHeartbeats 400000 in
theorem interest_no4 (p rate num den : Int) (w : World) (g0 : -1000000000000000 ≤ p) (g1 : p ≤ 1000000000000000) (g2 : 0 ≤ rate) (g3 : rate ≤ 1000000000) (h : num < 0) :
    Calls Tryd.prog 18 #[.int .i64 p, .int .i64 rate, .int .i64 num, .int .i64 den] w fun e w' => e = .returned (.tuple #[.int .i64 0, .int .i64 2]) ∧ w = w' := by
  go_enter Tryd.func18, Tryd.ntmps18
  go_wp2_with (go_at_call 36; refine (isMoney_yes _ _ g0 g1).mono ?_; rintro e w' ⟨rfl, rfl⟩)
  go_ret2
  exact ⟨rfl, rfl⟩

set_option maxHeartbeats 400000 in
theorem interest_no5 (p rate num den : Int) (w : World) (g0 : -1000000000000000 ≤ p) (g1 : p ≤ 1000000000000000) (g2 : 0 ≤ rate) (g3 : rate ≤ 1000000000) (g4 : 0 ≤ num) (h : 10000000 < num) :
    Calls Tryd.prog 18 #[.int .i64 p, .int .i64 rate, .int .i64 num, .int .i64 den] w fun e w' => e = .returned (.tuple #[.int .i64 0, .int .i64 2]) ∧ w = w' := by
  go_enter Tryd.func18, Tryd.ntmps18
  go_wp2_with (go_at_call 36; refine (isMoney_yes _ _ g0 g1).mono ?_; rintro e w' ⟨rfl, rfl⟩)
  go_ret2
  exact ⟨rfl, rfl⟩

set_option maxHeartbeats 400000 in
theorem interest_no6 (p rate num den : Int) (w : World) (g0 : -1000000000000000 ≤ p) (g1 : p ≤ 1000000000000000) (g2 : 0 ≤ rate) (g3 : rate ≤ 1000000000) (g4 : 0 ≤ num) (g5 : num ≤ 10000000) (h : den < 1) :
    Calls Tryd.prog 18 #[.int .i64 p, .int .i64 rate, .int .i64 num, .int .i64 den] w fun e w' => e = .returned (.tuple #[.int .i64 0, .int .i64 2]) ∧ w = w' := by
  go_enter Tryd.func18, Tryd.ntmps18
  go_wp2_with (go_at_call 36; refine (isMoney_yes _ _ g0 g1).mono ?_; rintro e w' ⟨rfl, rfl⟩)
  go_ret2
  exact ⟨rfl, rfl⟩

set_option maxHeartbeats 400000 in
theorem interest_no7 (p rate num den : Int) (w : World) (g0 : -1000000000000000 ≤ p) (g1 : p ≤ 1000000000000000) (g2 : 0 ≤ rate) (g3 : rate ≤ 1000000000) (g4 : 0 ≤ num) (g5 : num ≤ 10000000) (g6 : 1 ≤ den) (h : 366 < den) :
    Calls Tryd.prog 18 #[.int .i64 p, .int .i64 rate, .int .i64 num, .int .i64 den] w fun e w' => e = .returned (.tuple #[.int .i64 0, .int .i64 2]) ∧ w = w' := by
  go_enter Tryd.func18, Tryd.ntmps18
  go_wp2_with (go_at_call 36; refine (isMoney_yes _ _ g0 g1).mono ?_; rintro e w' ⟨rfl, rfl⟩)
  go_ret2
  exact ⟨rfl, rfl⟩

theorem rate_bd (rate num : Int) (g2 : 0 ≤ rate) (g3 : rate ≤ 1000000000) (g4 : 0 ≤ num) (g5 : num ≤ 10000000) : 0 ≤ rate * num ∧ rate * num ≤ 10000000000000000 := mul_lt rate num 1000000000 10000000 g2 g3 g4 g5

theorem interest_is (p rate num den : Int) (g2 : 0 ≤ rate) (g4 : 0 ≤ num) (g6 : 1 ≤ den) :
    mulDiv p (rate * num) (1000000000 * den) = sgnd (even (size p * rate * num) (1000000000 * den)) (decide (p < 0)) := by
  have h : 0 ≤ rate * num := Int.mul_nonneg g2 g4
  have e1 : size (rate * num) = rate * num := by unfold size; omega
  have e2 : size (1000000000 * den) = 1000000000 * den := by unfold size; omega
  have e3 : negs p (rate * num) (1000000000 * den) = decide (p < 0) := by
    unfold negs
    rw [decide_eq_false (show ¬ rate * num < 0 by omega), decide_eq_false (show ¬ 1000000000 * den < 0 by omega)]
    simp
  unfold mulDiv
  rw [if_neg (by omega), e1, e2, e3, Int.mul_assoc]

set_option maxHeartbeats 400000 in
theorem interest_yes (p rate num den : Int) (w : World) (g0 : -1000000000000000 ≤ p) (g1 : p ≤ 1000000000000000) (g2 : 0 ≤ rate) (g3 : rate ≤ 1000000000) (g4 : 0 ≤ num) (g5 : num ≤ 10000000) (g6 : 1 ≤ den) (g7 : den ≤ 366) :
    Calls Tryd.prog 18 #[.int .i64 p, .int .i64 rate, .int .i64 num, .int .i64 den] w fun e w' => e = .returned (pairV (sgnd (even (size p * rate * num) (1000000000 * den)) (decide (p < 0)))) ∧ Below w.heap.size w w' := by
  rw [← interest_is p rate num den g2 g4 g6]
  obtain ⟨x, hx⟩ : ∃ x, rate * num = x := ⟨_, rfl⟩
  obtain ⟨x0, x1⟩ := rate_bd rate num g2 g3 g4 g5
  rw [hx] at x0 x1 ⊢
  have G2 := Lib.hid g2
  go_enter Tryd.func18, Tryd.ntmps18
  go_wp2_with (first | (go_at_call 36; refine (isMoney_yes _ _ g0 g1).mono ?_; rintro e w' ⟨rfl, rfl⟩) | (go_at_call 16; refine (mulDiv_any _ _ _ _ (by omega) (by omega) (by omega) (by omega) (by omega) (by omega)).mono ?_; rintro e w' ⟨rfl, hb⟩))
  go_ret2
  exact ⟨rfl, hb⟩

theorem interest_any (p rate num den : Int) (w : World) :
    Calls Tryd.prog 18 #[.int .i64 p, .int .i64 rate, .int .i64 num, .int .i64 den] w fun e w' => e = .returned (pairV (interest p rate num den)) ∧ Below w.heap.size w w' := by
  unfold interest
  by_cases g : inRange p rate num den
  · rw [if_pos g]
    simp only [inRange, Bool.and_eq_true, decide_eq_true_eq] at g
    obtain ⟨⟨⟨⟨⟨⟨⟨g0, g1⟩, g2⟩, g3⟩, g4⟩, g5⟩, g6⟩, g7⟩ := g
    exact interest_yes p rate num den w g0 g1 g2 g3 g4 g5 g6 g7
  · rw [if_neg g]
    have fin : Calls Tryd.prog 18 #[.int .i64 p, .int .i64 rate, .int .i64 num, .int .i64 den] w (fun e w' => e = .returned (.tuple #[.int .i64 0, .int .i64 2]) ∧ w = w') := by
      by_cases g0 : -1000000000000000 ≤ p
      case neg => exact interest_money p rate num den w (by omega)
      by_cases g1 : p ≤ 1000000000000000
      case neg => exact interest_money p rate num den w (by omega)
      by_cases g2 : 0 ≤ rate
      case neg => exact interest_no2 p rate num den w g0 g1 (by omega)
      by_cases g3 : rate ≤ 1000000000
      case neg => exact interest_no3 p rate num den w g0 g1 g2 (by omega)
      by_cases g4 : 0 ≤ num
      case neg => exact interest_no4 p rate num den w g0 g1 g2 g3 (by omega)
      by_cases g5 : num ≤ 10000000
      case neg => exact interest_no5 p rate num den w g0 g1 g2 g3 g4 (by omega)
      by_cases g6 : 1 ≤ den
      case neg => exact interest_no6 p rate num den w g0 g1 g2 g3 g4 g5 (by omega)
      by_cases g7 : den ≤ 366
      case neg => exact interest_no7 p rate num den w g0 g1 g2 g3 g4 g5 g6 (by omega)
      exact absurd (by simp [inRange, *]) g
    exact fin.mono fun e w' h => ⟨h.1, by rw [h.2]; exact Below.refl _ _⟩

end Go.Proofs.YtefkabkncmflpaaDoor
