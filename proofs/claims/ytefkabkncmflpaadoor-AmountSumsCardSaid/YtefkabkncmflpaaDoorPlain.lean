/-
  Plain arithmetic for the walks of amount: signs of words, products of halves, division of two words by one.
-/
import Derived.WalkKit
namespace Go.Proofs.YtefkabkncmflpaaDoor
open Go.RowKit

theorem ret_int {k : IntKind} {a b : Int} (h : a = b) : Ending.returned (.int k a) = .returned (.int k b) := by rw [h]
theorem ret_bool {a b : Bool} (h : a = b) : Ending.returned (.bool a) = .returned (.bool b) := by rw [h]
theorem ret_two {k l : IntKind} {a b c d : Int} (h : a = b) (g : c = d) : Ending.returned (.tuple #[.int k a, .int l c]) = .returned (.tuple #[.int k b, .int l d]) := by rw [h, g]
theorem ret_three {k l : IntKind} {a b c d : Int} {x : Value} (h : a = b) (g : c = d) : Ending.returned (.tuple #[.int k a, .int l c, x]) = .returned (.tuple #[.int k b, .int l d, x]) := by rw [h, g]
theorem neg_wrap (a : Int) (h0 : -9223372036854775808 ≤ a) (h1 : a < 0) : IntKind.u64.wrap (-IntKind.u64.wrap a) = -a := by
  rw [IntKind.wrap_u64, IntKind.wrap_u64]; omega
theorem back_neg (q : Int) (h0 : 0 ≤ q) (h1 : q ≤ 9223372036854775808) : wrap64 (IntKind.u64.wrap (-q)) = -q := by
  rw [IntKind.wrap_u64]; unfold wrap64; omega

/-! signs -/
theorem sgn (x : BitVec 64) : decide (IntKind.i64.wrap (x.toNat : Int) < 0) = x.msb := by
  rw [BitVec.msb_eq_decide, IntKind.wrap_i64]
  have := x.isLt
  apply decide_eq_decide.2
  simp at *
  omega
theorem of_wrap (x : BitVec 64) : BitVec.ofInt 64 (IntKind.i64.wrap (x.toNat : Int)) = x := by
  apply BitVec.eq_of_toNat_eq
  rw [BitVec.toNat_ofInt, IntKind.wrap_i64]
  have := x.isLt
  omega
theorem msb_ofInt (a : Int) (h0 : -9223372036854775808 ≤ a) (h1 : a ≤ 9223372036854775807) : (BitVec.ofInt 64 a).msb = decide (a < 0) := by
  rw [BitVec.msb_eq_decide]
  apply decide_eq_decide.2
  rw [BitVec.toNat_ofInt]
  simp
  omega
/-- (a^s)&(b^s) is below 0 just where s has another sign than both. -/
theorem sign_add (a b s : Int) (ha : -9223372036854775808 ≤ a ∧ a ≤ 9223372036854775807) (hb : -9223372036854775808 ≤ b ∧ b ≤ 9223372036854775807) (hs : -9223372036854775808 ≤ s ∧ s ≤ 9223372036854775807) :
    decide (bits .and .i64 (bits .xor .i64 a s) (bits .xor .i64 b s) < 0) = ((decide (a < 0) ^^ decide (s < 0)) && (decide (b < 0) ^^ decide (s < 0))) := by
  show decide (IntKind.i64.wrap ((BitVec.ofInt 64 (IntKind.i64.wrap ((BitVec.ofInt 64 a ^^^ BitVec.ofInt 64 s).toNat : Int)) &&& BitVec.ofInt 64 (IntKind.i64.wrap ((BitVec.ofInt 64 b ^^^ BitVec.ofInt 64 s).toNat : Int))).toNat : Int) < 0) = _
  rw [sgn, of_wrap, of_wrap, BitVec.msb_and, BitVec.msb_xor, BitVec.msb_xor, msb_ofInt a ha.1 ha.2, msb_ofInt b hb.1 hb.2, msb_ofInt s hs.1 hs.2]
theorem sign_sub (a b s : Int) (ha : -9223372036854775808 ≤ a ∧ a ≤ 9223372036854775807) (hb : -9223372036854775808 ≤ b ∧ b ≤ 9223372036854775807) (hs : -9223372036854775808 ≤ s ∧ s ≤ 9223372036854775807) :
    decide (bits .and .i64 (bits .xor .i64 a b) (bits .xor .i64 a s) < 0) = ((decide (a < 0) ^^ decide (b < 0)) && (decide (a < 0) ^^ decide (s < 0))) := by
  show decide (IntKind.i64.wrap ((BitVec.ofInt 64 (IntKind.i64.wrap ((BitVec.ofInt 64 a ^^^ BitVec.ofInt 64 b).toNat : Int)) &&& BitVec.ofInt 64 (IntKind.i64.wrap ((BitVec.ofInt 64 a ^^^ BitVec.ofInt 64 s).toNat : Int))).toNat : Int) < 0) = _
  rw [sgn, of_wrap, of_wrap, BitVec.msb_and, BitVec.msb_xor, BitVec.msb_xor, msb_ofInt a ha.1 ha.2, msb_ofInt b hb.1 hb.2, msb_ofInt s hs.1 hs.2]

/-- What Add and Sub answer. -/
def addA (a b : Int) : Value := if -9223372036854775808 ≤ a + b ∧ a + b ≤ 9223372036854775807 then .tuple #[.int .i64 (a + b), .int .i64 0] else .tuple #[.int .i64 0, .int .i64 4]
def subA (a b : Int) : Value := if -9223372036854775808 ≤ a - b ∧ a - b ≤ 9223372036854775807 then .tuple #[.int .i64 (a - b), .int .i64 0] else .tuple #[.int .i64 0, .int .i64 4]
theorem addA_over (a b : Int) (ha : -9223372036854775808 ≤ a ∧ a ≤ 9223372036854775807) (hb : -9223372036854775808 ≤ b ∧ b ≤ 9223372036854775807)
    (h : bits .and .i64 (bits .xor .i64 a (wrap64 (a + b))) (bits .xor .i64 b (wrap64 (a + b))) < 0) : addA a b = .tuple #[.int .i64 0, .int .i64 4] := by
  have hw : -9223372036854775808 ≤ wrap64 (a + b) ∧ wrap64 (a + b) ≤ 9223372036854775807 := by unfold wrap64; omega
  have e := sign_add a b (wrap64 (a + b)) ha hb hw
  rw [decide_eq_true h] at e
  unfold addA
  rw [if_neg]
  intro hr
  have : wrap64 (a + b) = a + b := by unfold wrap64; omega
  rw [this] at e
  by_cases h1 : a < 0 <;> by_cases h2 : b < 0 <;> by_cases h3 : a + b < 0 <;> simp [h1, h2, h3] at e <;> omega
theorem addA_in (a b : Int) (ha : -9223372036854775808 ≤ a ∧ a ≤ 9223372036854775807) (hb : -9223372036854775808 ≤ b ∧ b ≤ 9223372036854775807)
    (h : 0 ≤ bits .and .i64 (bits .xor .i64 a (wrap64 (a + b))) (bits .xor .i64 b (wrap64 (a + b)))) : addA a b = .tuple #[.int .i64 (wrap64 (a + b)), .int .i64 0] := by
  have hw : -9223372036854775808 ≤ wrap64 (a + b) ∧ wrap64 (a + b) ≤ 9223372036854775807 := by unfold wrap64; omega
  have e := sign_add a b (wrap64 (a + b)) ha hb hw
  rw [decide_eq_false (by omega)] at e
  have key : -9223372036854775808 ≤ a + b ∧ a + b ≤ 9223372036854775807 := by
    have hd : wrap64 (a + b) = a + b ∨ (wrap64 (a + b) = a + b - 18446744073709551616 ∧ 9223372036854775807 < a + b) ∨ (wrap64 (a + b) = a + b + 18446744073709551616 ∧ a + b < -9223372036854775808) := by unfold wrap64; omega
    rcases hd with hd | hd | hd
    · omega
    · have h1 : ¬ a < 0 := by omega
      have h2 : ¬ b < 0 := by omega
      have h3 : wrap64 (a + b) < 0 := by omega
      simp [h1, h2, h3] at e
    · have h1 : a < 0 := by omega
      have h2 : b < 0 := by omega
      have h3 : ¬ wrap64 (a + b) < 0 := by omega
      simp [h1, h2, h3] at e
  unfold addA
  rw [if_pos key, show wrap64 (a + b) = a + b by unfold wrap64; omega]
theorem subA_over (a b : Int) (ha : -9223372036854775808 ≤ a ∧ a ≤ 9223372036854775807) (hb : -9223372036854775808 ≤ b ∧ b ≤ 9223372036854775807)
    (h : bits .and .i64 (bits .xor .i64 a b) (bits .xor .i64 a (wrap64 (a - b))) < 0) : subA a b = .tuple #[.int .i64 0, .int .i64 4] := by
  have hw : -9223372036854775808 ≤ wrap64 (a - b) ∧ wrap64 (a - b) ≤ 9223372036854775807 := by unfold wrap64; omega
  have e := sign_sub a b (wrap64 (a - b)) ha hb hw
  rw [decide_eq_true h] at e
  unfold subA
  rw [if_neg]
  intro hr
  have : wrap64 (a - b) = a - b := by unfold wrap64; omega
  rw [this] at e
  by_cases h1 : a < 0 <;> by_cases h2 : b < 0 <;> by_cases h3 : a - b < 0 <;> simp [h1, h2, h3] at e <;> omega
theorem subA_in (a b : Int) (ha : -9223372036854775808 ≤ a ∧ a ≤ 9223372036854775807) (hb : -9223372036854775808 ≤ b ∧ b ≤ 9223372036854775807)
    (h : 0 ≤ bits .and .i64 (bits .xor .i64 a b) (bits .xor .i64 a (wrap64 (a - b)))) : subA a b = .tuple #[.int .i64 (wrap64 (a - b)), .int .i64 0] := by
  have hw : -9223372036854775808 ≤ wrap64 (a - b) ∧ wrap64 (a - b) ≤ 9223372036854775807 := by unfold wrap64; omega
  have e := sign_sub a b (wrap64 (a - b)) ha hb hw
  rw [decide_eq_false (by omega)] at e
  have key : -9223372036854775808 ≤ a - b ∧ a - b ≤ 9223372036854775807 := by
    have hd : wrap64 (a - b) = a - b ∨ (wrap64 (a - b) = a - b - 18446744073709551616 ∧ 9223372036854775807 < a - b) ∨ (wrap64 (a - b) = a - b + 18446744073709551616 ∧ a - b < -9223372036854775808) := by unfold wrap64; omega
    rcases hd with hd | hd | hd
    · omega
    · have h1 : ¬ a < 0 := by omega
      have h2 : b < 0 := by omega
      have h3 : wrap64 (a - b) < 0 := by omega
      simp [h1, h2, h3] at e
    · have h1 : a < 0 := by omega
      have h2 : ¬ b < 0 := by omega
      have h3 : ¬ wrap64 (a - b) < 0 := by omega
      simp [h1, h2, h3] at e
  unfold subA
  rw [if_pos key, show wrap64 (a - b) = a - b by unfold wrap64; omega]

/-! products -/
theorem mul_lt (a b A B : Int) (h0 : 0 ≤ a) (h1 : a ≤ A) (h2 : 0 ≤ b) (h3 : b ≤ B) : 0 ≤ a * b ∧ a * b ≤ A * B :=
  ⟨Int.mul_nonneg h0 h2, Int.mul_le_mul h1 h3 h2 (by omega)⟩

/-- The five steps of a product of words by halves. -/
theorem halves_mul (a b : Int) (ha : 0 ≤ a) (ha' : a < 18446744073709551616) (hb : 0 ≤ b) (hb' : b < 18446744073709551616)
    (ah al bh bl p q r m1 m2 : Int) (hah : ah = a / 4294967296) (hal : al = a % 4294967296) (hbh : bh = b / 4294967296) (hbl : bl = b % 4294967296)
    (hp : p = al * bl) (hq : q = ah * bl + p / 4294967296) (hr : r = al * bh + q % 4294967296) (hm1 : m1 = ah * bh + q / 4294967296 + r / 4294967296) (hm2 : m2 = r % 4294967296 * 4294967296 + p % 4294967296) :
    a * b = m1 * 18446744073709551616 + m2 ∧ 0 ≤ p ∧ p ≤ 18446744065119617025 ∧ 0 ≤ q ∧ q ≤ 18446744069414584320 ∧ 0 ≤ r ∧ r ≤ 18446744069414584320 ∧ 0 ≤ m1 ∧ m1 < 18446744073709551616 ∧ 0 ≤ m2 ∧ m2 < 18446744073709551616 := by
  have e1 : a = ah * 4294967296 + al := by omega
  have e2 : b = bh * 4294967296 + bl := by omega
  have b1 := mul_lt al bl 4294967295 4294967295 (by omega) (by omega) (by omega) (by omega)
  have b2 := mul_lt ah bl 4294967295 4294967295 (by omega) (by omega) (by omega) (by omega)
  have b3 := mul_lt al bh 4294967295 4294967295 (by omega) (by omega) (by omega) (by omega)
  have b4 := mul_lt ah bh 4294967295 4294967295 (by omega) (by omega) (by omega) (by omega)
  have e : a * b = ah * bh * 18446744073709551616 + (ah * bl + al * bh) * 4294967296 + al * bl := by
    rw [e1, e2, Int.add_mul, Int.mul_add, Int.mul_add]
    have : ah * 4294967296 * (bh * 4294967296) = ah * bh * 18446744073709551616 := by
      rw [show ah * 4294967296 * (bh * 4294967296) = (ah * bh) * (4294967296 * 4294967296) by
        rw [Int.mul_assoc, Int.mul_assoc, Int.mul_left_comm 4294967296 bh]]; rfl
    have : ah * 4294967296 * bl = ah * bl * 4294967296 := by rw [Int.mul_assoc, Int.mul_comm 4294967296 bl, ← Int.mul_assoc]
    have : al * (bh * 4294967296) = al * bh * 4294967296 := by rw [Int.mul_assoc]
    omega
  generalize al * bl = x1 at *
  generalize ah * bl = x2 at *
  generalize al * bh = x3 at *
  generalize ah * bh = x4 at *
  refine ⟨?_, ?_, ?_, ?_, ?_, ?_, ?_, ?_, ?_, ?_, ?_⟩ <;> omega

/-! rounding -/
/-- n over d, to the nearest; of two the even one. -/
def even (n d : Int) : Int := if d < 2 * (n % d) ∨ (2 * (n % d) = d ∧ n / d % 2 = 1) then n / d + 1 else n / d
/-- A size with its sign, and the error's number. -/
def sgnd (q : Int) (neg : Bool) : Int × Int := if neg then (if q ≤ 9223372036854775808 then (-q, 0) else (0, 4)) else (if q ≤ 9223372036854775807 then (q, 0) else (0, 4))
abbrev pairV (p : Int × Int) : Value := .tuple #[.int .i64 p.1, .int .i64 p.2]
def size (a : Int) : Int := (a.natAbs : Int)
def negs (a b c : Int) : Bool := (decide (a < 0) != decide (b < 0)) != decide (c < 0)
/-- What P1.2 says of a times b over c. -/
def mulDiv (a b c : Int) : Int × Int := if c = 0 then (0, 5) else sgnd (even (size a * size b) (size c)) (negs a b c)
/-- What P1.3 says. -/
def inRange (p rate num den : Int) : Bool := decide (-1000000000000000 ≤ p) && decide (p ≤ 1000000000000000) && decide (0 ≤ rate) && decide (rate ≤ 1000000000) && decide (0 ≤ num) && decide (num ≤ 10000000) && decide (1 ≤ den) && decide (den ≤ 366)
def interest (p rate num den : Int) : Int × Int := if inRange p rate num den then sgnd (even (size p * rate * num) (1000000000 * den)) (decide (p < 0)) else (0, 2)

theorem even_bd (n d : Int) (h0 : 0 ≤ n) (hd : 0 < d) : n / d ≤ even n d ∧ even n d ≤ n / d + 1 ∧ 0 ≤ even n d := by
  have := Int.ediv_nonneg h0 (show 0 ≤ d by omega)
  unfold even; split <;> omega
theorem even_over (n d : Int) (neg : Bool) (h0 : 0 ≤ n) (hd : 0 < d) (h : 9223372036854775808 < n / d) : sgnd (even n d) neg = (0, 4) := by
  have := even_bd n d h0 hd
  unfold sgnd
  cases neg
  · rw [if_neg (by decide), if_neg (by omega)]
  · rw [if_pos rfl, if_neg (by omega)]
theorem size_nonneg (a : Int) : 0 ≤ size a := by unfold size; omega
theorem size_pos' (a : Int) (h : a ≠ 0) : 0 < size a := by unfold size; omega
theorem size_le (a : Int) (h0 : -9223372036854775808 ≤ a) (h1 : a ≤ 9223372036854775807) : size a ≤ 9223372036854775808 := by unfold size; omega

end Go.Proofs.YtefkabkncmflpaaDoor
