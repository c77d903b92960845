/-
  Bits: a byte marked, a number joined, a number folded and unfolded.
-/
import Derived.Test.YtimonpoeieenpaaKPlain
import Derived.Laws.BitsAllLaws
import Derived.WalkKit
namespace Go.Proofs.Ytimonpoeieenpaa

theorem or128 : ∀ n : Fin 256, bits .or .u8 128 (n.val : Int) = (n.val : Int) % 128 + 128 := by decide +kernel
theorem or_mark (u : Int) : bits .or .u8 128 (u % 256) = u % 128 + 128 := by
  have h := or128 ⟨(u % 256).toNat, by omega⟩
  have e : (((u % 256).toNat : Nat) : Int) = u % 256 := by omega
  simp only [e] at h
  rw [h]
  omega

theorem or_join (a d : Int) (i : Nat) (hi : i ≤ 9) (a0 : 0 ≤ a) (a1 : a < 128 ^ i) (d0 : 0 ≤ d) (d1 : d * 128 ^ i ≤ 18446744073709551615) : bits .or .u64 a (d * 128 ^ i) = a + d * 128 ^ i := by
  obtain ⟨A, rfl⟩ := Int.eq_ofNat_of_zero_le a0
  obtain ⟨D, rfl⟩ := Int.eq_ofNat_of_zero_le d0
  have e : (D : Int) * 128 ^ i = ((D * 128 ^ i : Nat) : Int) := by simp
  have e2 : (128 : Nat) ^ i = 2 ^ (7 * i) := by rw [Nat.pow_mul]
  have a2 : A < 128 ^ i := by exact_mod_cast a1
  rw [e] at d1 ⊢
  have hp : (128 : Nat) ^ i ≤ 9223372036854775808 := by
    have h := (pow_in i hi).2
    have e3 : (128 : Int) ^ i = ((128 ^ i : Nat) : Int) := by simp
    rw [e3] at h
    omega
  rw [u64_or_nat A (D * 128 ^ i) (by omega) (by omega), Nat.or_comm, nat_join (7 * i) (D * 128 ^ i) A (by rw [← e2]; exact Nat.mul_mod_left _ _) (by rw [← e2]; exact a2)]
  omega

theorem xor_none (x : Int) (h0 : 0 ≤ x) (h1 : x ≤ 18446744073709551615) : bits .xor .u64 x 0 = x := by
  obtain ⟨X, rfl⟩ := Int.eq_ofNat_of_zero_le h0
  have := u64_xor_nat X 0 (by omega) (by omega)
  simpa using this
theorem xor_all (x : Int) (h0 : 0 ≤ x) (h1 : x ≤ 18446744073709551615) : bits .xor .u64 x 18446744073709551615 = 18446744073709551615 - x := by
  obtain ⟨X, rfl⟩ := Int.eq_ofNat_of_zero_le h0
  show IntKind.u64.wrap ((BitVec.ofInt 64 (X : Int) ^^^ BitVec.ofInt 64 18446744073709551615).toNat : Int) = _
  have e : BitVec.ofInt 64 18446744073709551615 = BitVec.allOnes 64 := by decide
  rw [e, BitVec.xor_allOnes, BitVec.toNat_not, ofInt_u64 X (by omega), IntKind.wrap_u64]
  omega
theorem xor_none_i (x : Int) (h0 : 0 ≤ x) (h1 : x ≤ 9223372036854775807) : bits .xor .i64 x 0 = x := by
  obtain ⟨X, rfl⟩ := Int.eq_ofNat_of_zero_le h0
  show IntKind.i64.wrap ((BitVec.ofInt 64 (X : Int) ^^^ BitVec.ofInt 64 0).toNat : Int) = _
  have e : BitVec.ofInt 64 0 = 0#64 := by decide
  rw [e, BitVec.xor_zero, ofInt_u64 X (by omega), IntKind.wrap_i64]
  omega
theorem xor_all_i (x : Int) (h0 : 0 ≤ x) (h1 : x ≤ 9223372036854775807) : bits .xor .i64 x (-1) = -x - 1 := by
  obtain ⟨X, rfl⟩ := Int.eq_ofNat_of_zero_le h0
  show IntKind.i64.wrap ((BitVec.ofInt 64 (X : Int) ^^^ BitVec.ofInt 64 (-1)).toNat : Int) = _
  have e : BitVec.ofInt 64 (-1) = BitVec.allOnes 64 := by decide
  rw [e, BitVec.xor_allOnes, BitVec.toNat_not, ofInt_u64 X (by omega), IntKind.wrap_i64]
  omega
theorem and_one (x : Int) (h0 : 0 ≤ x) (h1 : x ≤ 18446744073709551615) : bits .and .u64 x 1 = x % 2 := by
  rw [u64_and x 1 h0 (by omega) (by omega) (by omega)]
  have : x.toNat &&& (1 : Int).toNat = x.toNat % 2 := Nat.and_one_is_mod x.toNat
  rw [this]
  omega

end Go.Proofs.Ytimonpoeieenpaa
