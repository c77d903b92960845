/-
  Plain mathematics of shares.
-/
import Derived.Test.YtefkabkncmflpaaDoorStable
import Derived.Test.YtefkabkncmflpaaDoorPlain
namespace Go.Proofs.YtefkabkncmflpaaDoor

def sumTo (f : Nat → Int) : Nat → Int
  | 0 => 0
  | n + 1 => sumTo f n + f n
theorem sumTo_congr {f g : Nat → Int} {n : Nat} (h : ∀ i, i < n → f i = g i) : sumTo f n = sumTo g n := by
  induction n with
  | zero => rfl
  | succ n ih => rw [sumTo, sumTo, ih (fun i hi => h i (by omega)), h n (by omega)]
theorem sumTo_nonneg {f : Nat → Int} {n : Nat} (h : ∀ i, i < n → 0 ≤ f i) : 0 ≤ sumTo f n := by
  induction n with
  | zero => simp [sumTo]
  | succ n ih => have := ih (fun i hi => h i (by omega)); have := h n (by omega); rw [sumTo]; omega
theorem sumTo_mono {f : Nat → Int} {k n : Nat} (hk : k ≤ n) (h : ∀ i, i < n → 0 ≤ f i) : sumTo f k ≤ sumTo f n := by
  induction n with
  | zero => obtain rfl : k = 0 := by omega
            omega
  | succ n ih =>
    by_cases e : k = n + 1
    · subst e; omega
    · have := ih (by omega) (fun i hi => h i (by omega)); have := h n (by omega); rw [sumTo]; omega
theorem sumTo_le {f : Nat → Int} {n : Nat} (B : Int) (h : ∀ i, i < n → f i ≤ B) : sumTo f n ≤ n * B := by
  induction n with
  | zero => simp [sumTo]
  | succ n ih =>
    have h1 := ih (fun i hi => h i (by omega)); have h2 := h n (by omega)
    rw [sumTo]
    have : ((n + 1 : Nat) : Int) * B = n * B + B := by rw [Int.natCast_add, Int.add_mul]; simp
    omega

/-- Each weight's part of the total, rounded down; what is left of it. -/
def part (T S : Int) (wt : Nat → Int) (i : Nat) : Int := T * wt i / S
def over (T S : Int) (wt : Nat → Int) (i : Nat) : Int := T * wt i % S

theorem parts_le (T S : Int) (wt : Nat → Int) (n : Nat) (hT : 0 ≤ T) (hS : 0 < S) (_hw : ∀ i, i < n → 0 ≤ wt i) (hs : sumTo wt n ≤ S) : sumTo (part T S wt) n ≤ T := by
  have key : ∀ k, S * sumTo (part T S wt) k ≤ T * sumTo wt k := fun k => by
    induction k with
    | zero => simp [sumTo]
    | succ k ih =>
      rw [sumTo, sumTo, Int.mul_add, Int.mul_add]
      have := Int.mul_ediv_self_le (x := T * wt k) (k := S) (by omega)
      unfold part
      unfold part at ih
      omega
  have h1 := key n
  have h2 : T * sumTo wt n ≤ T * S := Int.mul_le_mul_of_nonneg_left hs hT
  have h3 : S * sumTo (part T S wt) n ≤ S * T := by rw [Int.mul_comm S T]; omega
  exact Int.le_of_mul_le_mul_left h3 hS
theorem part_nonneg (T S : Int) (wt : Nat → Int) (i : Nat) (hT : 0 ≤ T) (hS : 0 < S) (hw : 0 ≤ wt i) : 0 ≤ part T S wt i := Int.ediv_nonneg (Int.mul_nonneg hT hw) (by omega)
theorem over_bd (T S : Int) (wt : Nat → Int) (i : Nat) (hS : 0 < S) : 0 ≤ over T S wt i ∧ over T S wt i < S := ⟨Int.emod_nonneg _ (by omega), Int.emod_lt_of_pos _ hS⟩
theorem left_eq (T S : Int) (wt : Nat → Int) (n : Nat) (hs : sumTo wt n = S) : (T - sumTo (part T S wt) n) * S = sumTo (over T S wt) n := by
  have key : ∀ k, T * sumTo wt k = S * sumTo (part T S wt) k + sumTo (over T S wt) k := fun k => by
    induction k with
    | zero => simp [sumTo]
    | succ k ih =>
      have e := Int.mul_ediv_add_emod (T * wt k) S
      rw [sumTo, sumTo, sumTo, Int.mul_add, Int.mul_add, ih]
      unfold part over at *
      omega
  have := key n
  rw [hs] at this
  rw [Int.sub_mul, this, Int.mul_comm S]; omega
theorem left_lt (T S : Int) (wt : Nat → Int) (n : Nat) (hn : 0 < n) (hS : 0 < S) (hs : sumTo wt n = S) : T - sumTo (part T S wt) n < n := by
  have e := left_eq T S wt n hs
  have b : sumTo (over T S wt) n ≤ n * (S - 1) := sumTo_le (S - 1) fun i _ => by have := over_bd T S wt i hS; omega
  have h : (T - sumTo (part T S wt) n) * S < n * S := by
    rw [e, Int.mul_sub, Int.mul_one] at *
    omega
  exact Int.lt_of_mul_lt_mul_right h (by omega)

/-- Is the place i among the first k of p? -/
def taken {m : Nat} (p : Array (Pl m)) (k i : Nat) : Bool := (List.range k).any fun j => p[j]!.val == i
theorem taken_zero {m : Nat} (p : Array (Pl m)) (i : Nat) : taken p 0 i = false := rfl
theorem taken_iff {m : Nat} (p : Array (Pl m)) (k i : Nat) : taken p k i = true ↔ ∃ j, j < k ∧ p[j]!.val = i := by
  unfold taken
  simp [List.any_eq_true]
/-- A share: its part, and one more for those that stand first. -/
def got {m : Nat} (T S : Int) (wt : Nat → Int) (p : Array (Pl m)) (k i : Nat) : Int := part T S wt i + if taken p k i then 1 else 0
theorem got_step {m : Nat} (r : Pl m → Int) (T S : Int) (wt : Nat → Int) (p : Array (Pl m)) (k i n : Nat) (hk : k < n) (hs : Srt r p 0 n) :
    got T S wt p (k + 1) i = if i = p[k]!.val then got T S wt p k i + 1 else got T S wt p k i := by
  unfold got
  by_cases e : i = p[k]!.val
  · rw [if_pos e]
    have h1 : taken p (k + 1) i = true := (taken_iff _ _ _).2 ⟨k, by omega, e.symm⟩
    have h2 : taken p k i = false := by
      cases h : taken p k i
      · rfl
      · obtain ⟨j, j1, j2⟩ := (taken_iff _ _ _).1 h
        have := hs j k (by omega) j1 hk
        rw [show p[j]! = p[k]! from Fin.ext (by rw [j2]; exact e)] at this
        exact absurd this tl_irrefl
    rw [h1, h2]; simp
  · rw [if_neg e]
    have : taken p (k + 1) i = taken p k i := by
      rw [Bool.eq_iff_iff, taken_iff, taken_iff]
      constructor
      · rintro ⟨j, j1, j2⟩
        by_cases h : j = k
        · subst h; exact absurd j2.symm e
        · exact ⟨j, by omega, j2⟩
      · rintro ⟨j, j1, j2⟩; exact ⟨j, by omega, j2⟩
    rw [this]

end Go.Proofs.YtefkabkncmflpaaDoor
