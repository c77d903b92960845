/-
  Bits: the highest one turned, a byte joined.
-/
import Derived.Test.YtaedhedbmbmdoaaPlain
import Derived.Laws.BitsAllLaws
import Derived.WalkKit
namespace Go.Proofs.Ytaedhedbmbmdoaa

theorem nat_turn (n : Nat) (h : n < 18446744073709551616) : n ^^^ 9223372036854775808 = (n + 9223372036854775808) % 18446744073709551616 := by
  have e : (9223372036854775808 : Nat) = 2 ^ 63 := by decide
  rcases Nat.lt_or_ge n 9223372036854775808 with g | g
  · rw [Nat.mod_eq_of_lt (by omega), e, Nat.add_comm, Nat.xor_comm]
    have : 2 ^ 63 + n = 2 ^ 63 ||| n := by
      have := Nat.two_pow_add_eq_or_of_lt (i := 63) (b := n) (by omega) 1
      simpa using this
    rw [this]
    refine Nat.eq_of_testBit_eq fun i => ?_
    rw [Nat.testBit_xor, Nat.testBit_or, Nat.testBit_two_pow]
    by_cases hi : 63 = i
    · subst hi
      rw [Nat.testBit_lt_two_pow (by omega)]
      simp
    · simp [hi]
  · obtain ⟨m, rfl⟩ : ∃ m, n = 2 ^ 63 + m := ⟨n - 2 ^ 63, by omega⟩
    have hm : m < 2 ^ 63 := by omega
    have : 2 ^ 63 + m = 2 ^ 63 ||| m := by
      have := Nat.two_pow_add_eq_or_of_lt (i := 63) (b := m) hm 1
      simpa using this
    have e2 : (2 ^ 63 + m + 9223372036854775808) % 18446744073709551616 = m := by omega
    rw [e2, this, e]
    refine Nat.eq_of_testBit_eq fun i => ?_
    rw [Nat.testBit_xor, Nat.testBit_or, Nat.testBit_two_pow]
    by_cases hi : 63 = i
    · subst hi
      rw [Nat.testBit_lt_two_pow hm]
      simp
    · simp [hi]
theorem turn_bit (v : Int) (h0 : 0 ≤ v) (h1 : v < 18446744073709551616) : bits .xor .u64 v 9223372036854775808 = (v + 9223372036854775808) % 18446744073709551616 := by
  obtain ⟨n, rfl⟩ := Int.eq_ofNat_of_zero_le h0
  have h := u64_xor_nat n 9223372036854775808 (by omega) (by omega)
  rw [nat_turn n (by omega)] at h
  have e : ((9223372036854775808 : Nat) : Int) = 9223372036854775808 := rfl
  rw [e] at h
  rw [h]
  omega
theorem or_byte (t x : Int) (t0 : 0 ≤ t) (t1 : t < 72057594037927936) (x0 : 0 ≤ x) (x1 : x < 256) : bits .or .u64 (t * 256) x = t * 256 + x := by
  obtain ⟨T, rfl⟩ := Int.eq_ofNat_of_zero_le t0
  obtain ⟨X, rfl⟩ := Int.eq_ofNat_of_zero_le x0
  have e : (T : Int) * 256 = ((T * 256 : Nat) : Int) := by omega
  rw [e, u64_or_nat _ _ (by omega) (by omega)]
  have := Nat.two_pow_add_eq_or_of_lt (i := 8) (b := X) (by omega) T
  have e2 : T * 256 ||| X = T * 256 + X := by
    rw [show T * 256 = 2 ^ 8 * T by omega]
    exact this.symm
  rw [e2]
  omega

end Go.Proofs.Ytaedhedbmbmdoaa
