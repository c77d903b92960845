/-
  Plain: the sum of bytes: eight halvings a byte, as a table of any width, what it tells of one byte turned. Nothing of the program.
-/
import Derived.Test.YtjppklgegpmfpaaGreatDoorProg
namespace Go.Proofs.YtjppklgegpmfpaaGreatDoor

/-- Half of it; if it was odd, with the bits turned. -/
def half (c : Nat) : Nat := if c % 2 = 1 then (c / 2) ^^^ 3988292384 else c / 2
theorem half_odd {c : Nat} (h : c % 2 = 1) : half c = (c / 2) ^^^ 3988292384 := by unfold half; rw [if_pos h]
theorem half_even {c : Nat} (h : c % 2 ≠ 1) : half c = c / 2 := by unfold half; rw [if_neg h]
theorem half_lt {c : Nat} (h : c < 4294967296) : half c < 4294967296 := by
  unfold half
  split
  · have : (c / 2) ^^^ 3988292384 < 2 ^ 32 := Nat.xor_lt_two_pow (by omega) (by decide)
    omega
  · omega
theorem top_odd {c : Nat} (h : c < 4294967296) (o : c % 2 = 1) : (half c).testBit 31 = true := by
  rw [half_odd o, Nat.testBit_xor, Nat.testBit_lt_two_pow (by omega)]
  decide
theorem top_even {c : Nat} (h : c < 4294967296) (o : c % 2 ≠ 1) : (half c).testBit 31 = false := by
  rw [half_even o]
  exact Nat.testBit_lt_two_pow (by omega)
theorem xor_back (a b : Nat) : (a ^^^ b) ^^^ b = a := by rw [Nat.xor_assoc, Nat.xor_self, Nat.xor_zero]
theorem xor_inj {a b c : Nat} (h : a ^^^ c = b ^^^ c) : a = b := by rw [← xor_back a c, ← xor_back b c, h]
theorem xor_inj_left {a b c : Nat} (h : c ^^^ a = c ^^^ b) : a = b := xor_inj (c := c) (by rw [Nat.xor_comm a, Nat.xor_comm b]; exact h)
theorem half_inj {c d : Nat} (hc : c < 4294967296) (hd : d < 4294967296) (h : half c = half d) : c = d := by
  by_cases o : c % 2 = 1
  · by_cases o' : d % 2 = 1
    · rw [half_odd o, half_odd o'] at h
      have := xor_inj h
      omega
    · have h1 := top_odd hc o
      rw [h, top_even hd o'] at h1
      cases h1
  · by_cases o' : d % 2 = 1
    · have h1 := top_odd hd o'
      rw [← h, top_even hc o] at h1
      cases h1
    · rw [half_even o, half_even o'] at h
      omega
theorem xor_half (a b : Nat) : (a ^^^ b) / 2 = (a / 2) ^^^ (b / 2) := by
  refine Nat.eq_of_testBit_eq fun i => ?_
  rw [Nat.testBit_xor, Nat.testBit_div_two, Nat.testBit_div_two, Nat.testBit_div_two, Nat.testBit_xor]
theorem xor_odd (a b : Nat) : (a ^^^ b) % 2 = (a % 2 + b % 2) % 2 := by
  have h := Nat.testBit_xor a b 0
  simp only [Nat.testBit_zero] at h
  have h1 := Nat.mod_two_eq_zero_or_one (a ^^^ b)
  have h2 := Nat.mod_two_eq_zero_or_one a
  have h3 := Nat.mod_two_eq_zero_or_one b
  rcases h1 with e1 | e1 <;> rcases h2 with e2 | e2 <;> rcases h3 with e3 | e3 <;> simp [e1, e2, e3] at h ⊢
theorem half_xor (a b : Nat) : half (a ^^^ b) = half a ^^^ half b := by
  have ho := xor_odd a b
  by_cases oa : a % 2 = 1
  · by_cases ob : b % 2 = 1
    · rw [half_even (by omega), half_odd oa, half_odd ob, xor_half]
      rw [Nat.xor_assoc, Nat.xor_comm 3988292384, Nat.xor_assoc, Nat.xor_self, Nat.xor_zero]
    · rw [half_odd (by omega), half_odd oa, half_even ob, xor_half]
      rw [Nat.xor_assoc, Nat.xor_comm (b / 2), ← Nat.xor_assoc]
  · by_cases ob : b % 2 = 1
    · rw [half_odd (by omega), half_even oa, half_odd ob, xor_half, Nat.xor_assoc]
    · rw [half_even (by omega), half_even oa, half_even ob, xor_half]

/-- So many halvings. -/
def halfN : Nat → Nat → Nat
  | 0, c => c
  | n + 1, c => halfN n (half c)
theorem halfN_snoc : ∀ n c : Nat, halfN (n + 1) c = half (halfN n c)
  | 0, _ => rfl
  | n + 1, c => halfN_snoc n (half c)
theorem halfN_add : ∀ m n c : Nat, halfN (m + n) c = halfN n (halfN m c)
  | 0, n, c => by rw [Nat.zero_add]; rfl
  | m + 1, n, c => by rw [show m + 1 + n = (m + n) + 1 by omega]; exact halfN_add m n (half c)
theorem halfN_lt : ∀ (n : Nat) {c : Nat}, c < 4294967296 → halfN n c < 4294967296
  | 0, _, h => h
  | n + 1, _, h => halfN_lt n (half_lt h)
theorem halfN_inj : ∀ (n : Nat) {c d : Nat}, c < 4294967296 → d < 4294967296 → halfN n c = halfN n d → c = d
  | 0, _, _, _, _, h => h
  | n + 1, _, _, hc, hd, h => half_inj hc hd (halfN_inj n (half_lt hc) (half_lt hd) h)
theorem halfN_xor : ∀ n a b : Nat, halfN n (a ^^^ b) = halfN n a ^^^ halfN n b
  | 0, _, _ => rfl
  | n + 1, a, b => by rw [halfN, halfN, halfN, half_xor]; exact halfN_xor n _ _
theorem halfN_shift : ∀ n k : Nat, halfN n (2 ^ n * k) = k
  | 0, k => by simp [halfN]
  | n + 1, k => by
    rw [halfN, half_even (by rw [Nat.pow_succ, Nat.mul_comm _ 2, Nat.mul_assoc]; omega)]
    rw [show 2 ^ (n + 1) * k / 2 = 2 ^ n * k by rw [Nat.pow_succ, Nat.mul_comm _ 2, Nat.mul_assoc]; omega]
    exact halfN_shift n k
theorem low_high (n c : Nat) : c = (c % 2 ^ n) ^^^ (2 ^ n * (c / 2 ^ n)) := by
  refine Nat.eq_of_testBit_eq fun i => ?_
  rw [Nat.testBit_xor, Nat.testBit_mod_two_pow, Nat.testBit_two_pow_mul, Nat.testBit_div_two_pow]
  by_cases h : i < n
  · have h' : ¬ i ≥ n := by omega
    simp [h, h']
  · have h' : i ≥ n := by omega
    simp [h, h', show i - n + n = i by omega]
/-- So many halvings at once, by a table of the low bits. -/
theorem halfN_table (n c : Nat) : halfN n c = halfN n (c % 2 ^ n) ^^^ (c / 2 ^ n) := by
  conv => lhs; rw [low_high n c]
  rw [halfN_xor, halfN_shift]

def eight (c : Nat) : Nat := halfN 8 c
theorem eight_lt {c : Nat} (h : c < 4294967296) : eight c < 4294967296 := halfN_lt 8 h
theorem eight_inj {c d : Nat} (hc : c < 4294967296) (hd : d < 4294967296) (h : eight c = eight d) : c = d := halfN_inj 8 hc hd h
theorem xor_lt32 {a b : Nat} (ha : a < 4294967296) (hb : b < 4294967296) : a ^^^ b < 4294967296 := by
  have : a ^^^ b < 2 ^ 32 := Nat.xor_lt_two_pow (by omega) (by omega)
  omega
theorem xor_low (n c x : Nat) (hx : x < 2 ^ n) : (c ^^^ x) % 2 ^ n = (c % 2 ^ n) ^^^ x ∧ (c ^^^ x) / 2 ^ n = c / 2 ^ n := by
  constructor
  · rw [Nat.xor_mod_two_pow, Nat.mod_eq_of_lt hx]
  · rw [Nat.xor_div_two_pow, Nat.div_eq_of_lt hx, Nat.xor_zero]
/-- A byte, by a table of 256 numbers. -/
theorem eight_table (c x : Nat) (hx : x < 256) : eight (c ^^^ x) = eight ((c % 256) ^^^ x) ^^^ (c / 256) := by
  obtain ⟨h1, h2⟩ := xor_low 8 c x hx
  have h := halfN_table 8 (c ^^^ x)
  rw [h1, h2] at h
  exact h

/-- Bytes, one behind the other. -/
def crcF : Nat → List Int → Nat
  | c, [] => c
  | c, x :: s => crcF (eight (c ^^^ x.toNat)) s
theorem crcF_append : ∀ (c : Nat) (s t : List Int), crcF c (s ++ t) = crcF (crcF c s) t
  | _, [], _ => rfl
  | c, x :: s, t => crcF_append (eight (c ^^^ x.toNat)) s t
theorem crcF_take (c : Nat) (L : List Int) (k : Nat) (x : Int) (h : L[k]? = some x) : crcF c (L.take (k + 1)) = eight (crcF c (L.take k) ^^^ x.toNat) := by
  rw [List.take_add_one, h, crcF_append]
  rfl
theorem crcF_lt : ∀ (c : Nat) (L : List Int), c < 4294967296 → (∀ x ∈ L, 0 ≤ x ∧ x < 256) → crcF c L < 4294967296
  | _, [], h, _ => h
  | c, x :: s, h, hB => crcF_lt _ s (eight_lt (xor_lt32 h (by have := hB x (by simp); omega))) (fun y hy => hB y (List.mem_cons_of_mem _ hy))
theorem crcF_inj : ∀ (s : List Int) (c d : Nat), c < 4294967296 → d < 4294967296 → (∀ x ∈ s, 0 ≤ x ∧ x < 256) → crcF c s = crcF d s → c = d
  | [], _, _, _, _, _, h => h
  | x :: s, c, d, hc, hd, hB, h => by
    have hx : x.toNat < 4294967296 := by have := hB x (by simp); omega
    have h1 := crcF_inj s _ _ (eight_lt (xor_lt32 hc hx)) (eight_lt (xor_lt32 hd hx)) (fun y hy => hB y (List.mem_cons_of_mem _ hy)) h
    exact xor_inj (eight_inj (xor_lt32 hc hx) (xor_lt32 hd hx) h1)

/-- The sum. -/
def sumL (L : List Int) : Nat := crcF 4294967295 L ^^^ 4294967295
theorem sumL_lt (L : List Int) (h : ∀ x ∈ L, 0 ≤ x ∧ x < 256) : sumL L < 4294967296 := xor_lt32 (crcF_lt _ L (by decide) h) (by decide)
/-- Turned in one byte, bytes have another sum. -/
theorem sumL_turn (s t : List Int) (x y : Int) (hs : ∀ z ∈ s, 0 ≤ z ∧ z < 256) (ht : ∀ z ∈ t, 0 ≤ z ∧ z < 256) (hx : 0 ≤ x ∧ x < 256) (hy : 0 ≤ y ∧ y < 256) (hn : x ≠ y) : sumL (s ++ x :: t) ≠ sumL (s ++ y :: t) := fun h => by
  have h1 := xor_inj h
  rw [crcF_append, crcF_append] at h1
  have hc := crcF_lt 4294967295 s (by decide) hs
  have bx : x.toNat < 4294967296 := by omega
  have bY : y.toNat < 4294967296 := by omega
  have h2 := crcF_inj t _ _ (eight_lt (xor_lt32 hc bx)) (eight_lt (xor_lt32 hc bY)) ht h1
  have h3 := xor_inj_left (eight_inj (xor_lt32 hc bx) (xor_lt32 hc bY) h2)
  exact hn (by omega)
theorem sumL_digits : sumL [49, 50, 51, 52, 53, 54, 55, 56, 57] = 3421780262 := by decide +kernel
theorem sumL_noughts : sumL [0, 0, 0, 0] = 558161692 := by decide +kernel

end Go.Proofs.YtjppklgegpmfpaaGreatDoor
