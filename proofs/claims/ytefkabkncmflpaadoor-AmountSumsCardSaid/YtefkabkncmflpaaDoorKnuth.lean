/-
  Plain arithmetic: two words divided by one, as Knuth divides them (two digits of 32 bits).
-/
import Derived.Test.YtefkabkncmflpaaDoorPlain
namespace Go.Proofs.YtefkabkncmflpaaDoor
open Go.RowKit

/-- What holds of a trial digit q and its rest: never too small. -/
structure Trial (u yh yl d q r : Int) : Prop where
  sum : q * yh + r = u
  q0 : 0 ≤ q
  r0 : 0 ≤ r
  hi : u * 4294967296 + d < (q + 1) * (yh * 4294967296 + yl)

section
variable {u yh yl d q r : Int}

theorem Trial.first (hu : 0 ≤ u) (hd : 0 ≤ d ∧ d < 4294967296) (hyh : 2147483648 ≤ yh ∧ yh < 4294967296) (hyl : 0 ≤ yl ∧ yl < 4294967296) : Trial u yh yl d (u / yh) (u - u / yh * yh) := by
  have h1 : 0 ≤ u / yh := Int.ediv_nonneg hu (by omega)
  have h2 := Int.emod_nonneg u (show yh ≠ 0 by omega)
  have h3 := Int.emod_lt_of_pos u (show 0 < yh by omega)
  have h4 := Int.mul_ediv_add_emod u yh
  have h5 : yh * (u / yh) = u / yh * yh := Int.mul_comm _ _
  generalize u / yh = q at *
  refine ⟨by omega, h1, by omega, ?_⟩
  have e : (q + 1) * (yh * 4294967296 + yl) = q * yh * 4294967296 + q * yl + yh * 4294967296 + yl := by
    rw [Int.add_mul, Int.mul_add, Int.one_mul, ← Int.mul_assoc]; omega
  have h6 : 0 ≤ q * yl := Int.mul_nonneg h1 hyl.1
  generalize q * yh = p at *
  generalize q * yl = p2 at *
  rw [e]; omega

theorem Trial.small (t : Trial u yh yl d q r) (hyh : 2147483648 ≤ yh ∧ yh < 4294967296) (hyl : 0 ≤ yl ∧ yl < 4294967296) (huy : u < yh * 4294967296 + yl) : q ≤ 4294967298 := by
  obtain ⟨a, b, c, _⟩ := t
  apply Classical.byContradiction
  intro hq
  have h1 : 4294967299 * yh ≤ q * yh := Int.mul_le_mul_of_nonneg_right (by omega) (by omega)
  generalize q * yh = p at *
  omega

/-- Too great: one less is still never too small. -/
theorem Trial.less (t : Trial u yh yl d q r) (hd : 0 ≤ d ∧ d < 4294967296) (hyh : 2147483648 ≤ yh ∧ yh < 4294967296) (hyl : 0 ≤ yl ∧ yl < 4294967296) (huy : u < yh * 4294967296 + yl)
    (h : 4294967296 ≤ q ∨ 4294967296 * r + d < q * yl) : Trial u yh yl d (q - 1) (r + yh) := by
  obtain ⟨a, b, c, e⟩ := t
  have hq1 : 1 ≤ q := by
    rcases h with h | h
    · omega
    · apply Classical.byContradiction
      intro hq
      obtain rfl : q = 0 := by omega
      simp at h; omega
  refine ⟨?_, by omega, by omega, ?_⟩
  · rw [Int.sub_mul, Int.one_mul]; omega
  · rw [show q - 1 + 1 = q by omega, Int.mul_add, ← Int.mul_assoc]
    rcases h with h | h
    · have h1 : 4294967296 * yl ≤ q * yl := Int.mul_le_mul_of_nonneg_right h hyl.1
      have h2 : 4294967296 * yh ≤ q * yh := Int.mul_le_mul_of_nonneg_right h (by omega)
      generalize q * yh = p at *
      generalize q * yl = p2 at *
      omega
    · generalize q * yh = p at *
      generalize q * yl = p2 at *
      omega

/-- Where the test says no, or the rest has passed a digit, the digit is right. -/
theorem Trial.done (t : Trial u yh yl d q r) (hd : 0 ≤ d ∧ d < 4294967296) (_hyh : 2147483648 ≤ yh ∧ yh < 4294967296) (_hyl : 0 ≤ yl ∧ yl < 4294967296) (_hu : 0 ≤ u) (huy : u < yh * 4294967296 + yl)
    (h : q * yl ≤ 4294967296 * r + d) : q = (u * 4294967296 + d) / (yh * 4294967296 + yl) ∧ (u * 4294967296 + d) - q * (yh * 4294967296 + yl) = (u * 4294967296 + d) % (yh * 4294967296 + yl) ∧ q < 4294967296 := by
  obtain ⟨a, b, c, e⟩ := t
  have e1 : q * (yh * 4294967296 + yl) = q * yh * 4294967296 + q * yl := by rw [Int.mul_add, ← Int.mul_assoc]
  have e2 : (q + 1) * (yh * 4294967296 + yl) = q * (yh * 4294967296 + yl) + (yh * 4294967296 + yl) := by rw [Int.add_mul, Int.one_mul]
  have lo : q * (yh * 4294967296 + yl) ≤ u * 4294967296 + d := by
    rw [e1]
    generalize q * yh = p at *
    generalize q * yl = p2 at *
    omega
  rw [e2] at e
  have hY : 0 < yh * 4294967296 + yl := by omega
  have hq : (u * 4294967296 + d) / (yh * 4294967296 + yl) = q := by
    have h1 : q ≤ (u * 4294967296 + d) / (yh * 4294967296 + yl) := (Int.le_ediv_iff_mul_le hY).2 lo
    have h2 : (u * 4294967296 + d) / (yh * 4294967296 + yl) < q + 1 := Int.ediv_lt_of_lt_mul hY (by rw [e2]; exact e)
    omega
  refine ⟨hq.symm, ?_, ?_⟩
  · have := Int.mul_ediv_add_emod (u * 4294967296 + d) (yh * 4294967296 + yl)
    rw [hq, Int.mul_comm] at this
    omega
  · apply Classical.byContradiction
    intro hc
    have h1 : 4294967296 * (yh * 4294967296 + yl) ≤ q * (yh * 4294967296 + yl) := Int.mul_le_mul_of_nonneg_right (by omega) (by omega)
    omega

theorem Trial.right {Y : Int} (t : Trial u yh yl d q r) (hd : 0 ≤ d ∧ d < 4294967296) (hyh : 2147483648 ≤ yh ∧ yh < 4294967296) (hyl : 0 ≤ yl ∧ yl < 4294967296) (hu : 0 ≤ u) (huy : u < yh * 4294967296 + yl) (hY : yh * 4294967296 + yl = Y)
    (h : q * yl ≤ 4294967296 * r + d) : q = (u * 4294967296 + d) / Y ∧ (u * 4294967296 + d) - q * Y = (u * 4294967296 + d) % Y := by
  subst hY
  exact ⟨(t.done hd hyh hyl hu huy h).1, (t.done hd hyh hyl hu huy h).2.1⟩

theorem Trial.past (t : Trial u yh yl d q r) (hd : 0 ≤ d ∧ d < 4294967296) (hyh : 2147483648 ≤ yh ∧ yh < 4294967296) (hyl : 0 ≤ yl ∧ yl < 4294967296) (huy : u < yh * 4294967296 + yl)
    (h : 4294967296 ≤ r) : q * yl ≤ 4294967296 * r + d := by
  obtain ⟨a, b, c, e⟩ := t
  have hq : q < 4294967296 := by
    apply Classical.byContradiction
    intro hc
    have h1 : 4294967296 * yh ≤ q * yh := Int.mul_le_mul_of_nonneg_right (by omega) (by omega)
    generalize q * yh = p at *
    omega
  have := mul_lt q yl 4294967295 4294967295 b (by omega) hyl.1 (by omega)
  generalize q * yl = p2 at *
  omega
end

/-- A number of two words and its divisor, both shifted, give the same quotient; the rest is shifted. -/
theorem shifted (N y S q1 q0 rm : Int) (hS : 0 < S) (hy : 0 < y) (h : N * S = (q1 * 4294967296 + q0) * (y * S) + rm) (h0 : 0 ≤ rm) (h1 : rm < y * S) :
    q1 * 4294967296 + q0 = N / y ∧ rm / S = N % y := by
  generalize hQ : q1 * 4294967296 + q0 = Q at *
  have e : N * S - Q * (y * S) = (N - Q * y) * S := by rw [Int.sub_mul, Int.mul_assoc]
  have hr : rm = (N - Q * y) * S := by omega
  rw [hr] at h0 h1 ⊢
  have a1 : 0 ≤ N - Q * y := by
    apply Classical.byContradiction
    intro hc
    have : (N - Q * y) * S ≤ (-1) * S := Int.mul_le_mul_of_nonneg_right (by omega) (by omega)
    omega
  have a2 : N - Q * y < y := Int.lt_of_mul_lt_mul_right h1 (by omega)
  have a3 : N / y = Q := by
    have h1 : Q ≤ N / y := (Int.le_ediv_iff_mul_le hy).2 (by omega)
    have h2 : N / y < Q + 1 := Int.ediv_lt_of_lt_mul hy (by rw [Int.add_mul, Int.one_mul]; omega)
    omega
  refine ⟨a3.symm, ?_⟩
  rw [Int.mul_ediv_cancel _ (by omega)]
  have := Int.mul_ediv_add_emod N y
  rw [a3, Int.mul_comm] at this
  omega

/-- What a shift of both does to the words. -/
structure Words (hi lo y : Int) (s : Nat) (S Y H l u v : Int) : Prop where
  hS : 0 < S
  Y0 : 9223372036854775808 ≤ Y
  Y1 : Y < 18446744073709551616
  H0 : 0 ≤ H
  H1 : H < 18446744073709551616
  l0 : 0 ≤ l
  l1 : l < 18446744073709551616
  u0 : 0 ≤ u
  u1 : u < Y
  v0 : 0 ≤ v
  v1 : v < 18446744073709551616
  or_u : bits .or .u64 H l = u
  wrap_v : IntKind.u64.wrap (lo * S) = v
  all : (hi * 18446744073709551616 + lo) * S = u * 18446744073709551616 + v

theorem words (hi lo y : Int) (s : Nat) (hs : s ≤ 63) (hy0 : 2 ^ (63 - s) ≤ y) (hy1 : y < 2 ^ (64 - s)) (h0 : 0 ≤ lo) (h1 : lo < 18446744073709551616) (g0 : 0 ≤ hi) (g1 : hi < y) :
    Words hi lo y s (2 ^ s) (y * 2 ^ s) (hi * 2 ^ s) (lo / 2 ^ (64 - s)) (hi * 2 ^ s + lo / 2 ^ (64 - s)) (lo * 2 ^ s % 18446744073709551616) := by
  have hS : (0 : Int) < 2 ^ s := Int.pow_pos (by decide)
  have hT : (0 : Int) < 2 ^ (64 - s) := Int.pow_pos (by decide)
  have e64 : (2 : Int) ^ s * 2 ^ (64 - s) = 18446744073709551616 := by rw [← Int.pow_add, show s + (64 - s) = 64 by omega]; rfl
  have e63 : (2 : Int) ^ s * 2 ^ (63 - s) = 9223372036854775808 := by rw [← Int.pow_add, show s + (63 - s) = 63 by omega]; rfl
  have Y0 : 9223372036854775808 ≤ y * 2 ^ s := by rw [← e63, Int.mul_comm y]; exact Int.mul_le_mul_of_nonneg_left hy0 (by omega)
  have Y1 : y * 2 ^ s < 18446744073709551616 := by rw [← e64, Int.mul_comm y]; exact Int.mul_lt_mul_of_pos_left hy1 hS
  have H0 : 0 ≤ hi * 2 ^ s := Int.mul_nonneg g0 (by omega)
  have HY : hi * 2 ^ s + 2 ^ s ≤ y * 2 ^ s := by
    have : (hi + 1) * 2 ^ s ≤ y * 2 ^ s := Int.mul_le_mul_of_nonneg_right (by omega) (by omega)
    rwa [Int.add_mul, Int.one_mul] at this
  have l0 : 0 ≤ lo / 2 ^ (64 - s) := Int.ediv_nonneg h0 (by omega)
  have l1 : lo / 2 ^ (64 - s) < 2 ^ s := Int.ediv_lt_of_lt_mul hT (by rw [e64]; exact h1)
  have low : lo * 2 ^ s / 18446744073709551616 = lo / 2 ^ (64 - s) := by
    rw [← e64, Int.mul_comm lo, Int.mul_ediv_mul_of_pos _ _ hS]
  have hm := Int.mul_ediv_add_emod (lo * 2 ^ s) 18446744073709551616
  rw [low] at hm
  have all : (hi * 18446744073709551616 + lo) * 2 ^ s = (hi * 2 ^ s + lo / 2 ^ (64 - s)) * 18446744073709551616 + lo * 2 ^ s % 18446744073709551616 := by
    rw [Int.add_mul, Int.add_mul, Int.mul_right_comm]
    generalize hi * 2 ^ s = a at *
    generalize lo / 2 ^ (64 - s) = b at *
    generalize lo * 2 ^ s = c at *
    omega
  refine ⟨hS, Y0, Y1, H0, by omega, l0, by omega, by omega, by omega, Int.emod_nonneg _ (by decide), Int.emod_lt_of_pos _ (by decide), ?_, by rw [IntKind.wrap_u64], all⟩
  have hm0 : hi * 2 ^ s % 2 ^ s = 0 := Int.mul_emod_left _ _
  exact bits_join .u64 64 (by decide) (fun n h0 h1 => by rw [IntKind.wrap_u64]; omega) s _ _ H0 hm0 (by omega) l0 l1 (by omega)

/-- What is left behind a digit, reckoned in words that go round. -/
theorem wrap_rest (a b c R : Int) (h : a * 4294967296 + b - c = R) (h0 : 0 ≤ R) (h1 : R < 18446744073709551616) :
    IntKind.u64.wrap (IntKind.u64.wrap (IntKind.u64.wrap (a * 4294967296) + b) - IntKind.u64.wrap c) = R := by
  simp only [IntKind.wrap_u64]; omega

theorem join_digits (N S u v d1 d0 q1 q0 Y R1 R0 y : Int) (all : N * S = u * 18446744073709551616 + v) (hv : d1 * 4294967296 + d0 = v) (h1 : u * 4294967296 + d1 - q1 * Y = R1) (h0 : R1 * 4294967296 + d0 - q0 * Y = R0) (hY : y * S = Y)
    (hS : 0 < S) (hy : 0 < y) (r0 : 0 ≤ R0) (r1 : R0 < Y) : q1 * 4294967296 + q0 = N / y ∧ R0 / S = N % y := by
  refine shifted N y S q1 q0 R0 hS hy ?_ r0 (by rw [hY]; exact r1)
  rw [hY, all, Int.add_mul, Int.mul_right_comm]
  generalize q1 * Y = a at *
  generalize q0 * Y = b at *
  omega

end Go.Proofs.YtefkabkncmflpaaDoor
