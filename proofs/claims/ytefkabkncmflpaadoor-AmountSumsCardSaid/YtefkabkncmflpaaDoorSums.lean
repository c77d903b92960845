/-
  Plain: the shares make the total, and none is off its part by one or more.
-/
import Derived.Test.YtefkabkncmflpaaDoorPick
namespace Go.Proofs.YtefkabkncmflpaaDoor
open Go.Sort

theorem sumTo_add (f g : Nat → Int) (n : Nat) : sumTo (fun i => f i + g i) n = sumTo f n + sumTo g n := by
  induction n with
  | zero => rfl
  | succ n ih => rw [sumTo, sumTo, sumTo, ih]; omega
theorem sumTo_neg (f : Nat → Int) (n : Nat) : sumTo (fun i => -f i) n = -sumTo f n := by
  induction n with
  | zero => rfl
  | succ n ih => rw [sumTo, sumTo, ih]; omega
theorem sumTo_mul (c : Int) (f : Nat → Int) (n : Nat) : sumTo (fun i => c * f i) n = c * sumTo f n := by
  induction n with
  | zero => simp [sumTo]
  | succ n ih => rw [sumTo, sumTo, ih, Int.mul_add]
theorem sumTo_le2 {f g : Nat → Int} {n : Nat} (h : ∀ i, i < n → f i ≤ g i) : sumTo f n ≤ sumTo g n := by
  induction n with
  | zero => exact Int.le_refl _
  | succ n ih => have := ih fun i hi => h i (by omega); have := h n (by omega); rw [sumTo, sumTo]; omega
theorem sumTo_one (a n : Nat) (ha : a < n) : sumTo (fun i => if i = a then (1 : Int) else 0) n = 1 := by
  induction n with
  | zero => omega
  | succ n ih =>
    rw [sumTo]
    by_cases e : n = a
    · subst e
      rw [if_pos rfl, sumTo_congr (g := fun _ => 0) (fun i hi => if_neg (by omega))]
      have : ∀ k, sumTo (fun _ => (0 : Int)) k = 0 := fun k => by
        induction k with
        | zero => rfl
        | succ k ih => rw [sumTo, ih]; rfl
      rw [this]; rfl
    · rw [ih (by omega), if_neg e]; rfl

variable {m : Nat} {r : Pl m → Int} {p : Array (Pl m)} {n : Nat}
theorem not_taken (hS : Srt r p 0 n) (j : Nat) (hj : j < n) : taken p j p[j]!.val = false := by
  cases e : taken p j p[j]!.val
  · rfl
  · obtain ⟨k, k1, k2⟩ := (taken_iff _ _ _).1 e
    have := hS k j (by omega) k1 hj
    rw [show p[k]! = p[j]! from Fin.ext k2] at this
    exact absurd this tl_irrefl
theorem count (hB : Blk p 0 n) (hS : Srt r p 0 n) (j : Nat) (hj : j ≤ n) : sumTo (fun i => if taken p j i then (1 : Int) else 0) n = j := by
  induction j with
  | zero =>
    have : ∀ k, sumTo (fun i => if taken p 0 i then (1 : Int) else 0) k = 0 := fun k => by
      induction k with
      | zero => rfl
      | succ k ih => rw [sumTo, ih, taken_zero]; rfl
    rw [this]; rfl
  | succ j ih =>
    have hp := (hB.into j (by omega) (by omega)).2
    have e : ∀ i, i < n → (if taken p (j + 1) i then (1 : Int) else 0) = (if taken p j i then (1 : Int) else 0) + (if i = p[j]!.val then (1 : Int) else 0) := fun i _ => by
      by_cases c : i = p[j]!.val
      · rw [if_pos c, (taken_succ p j i).2 (.inr c.symm), c, not_taken hS j (by omega)]; rfl
      · rw [if_neg c]
        have : taken p (j + 1) i = taken p j i := by
          rw [Bool.eq_iff_iff, taken_succ]
          exact ⟨fun h => h.resolve_right fun h => c h.symm, .inl⟩
        rw [this, Int.add_zero]
    rw [sumTo_congr e, sumTo_add, ih (by omega), sumTo_one _ _ hp]
    omega

section
variable {Z S : Int} {wt : Nat → Int} {L : Nat}
theorem got_sum (hB : Blk p 0 n) (hS : Srt r p 0 n) (hL : (L : Int) = Z - sumTo (part Z S wt) n) (hn : L ≤ n) : sumTo (got Z S wt p L) n = Z := by
  have : sumTo (got Z S wt p L) n = sumTo (part Z S wt) n + sumTo (fun i => if taken p L i then (1 : Int) else 0) n := sumTo_add _ _ n
  rw [this, count hB hS L hn]
  omega
theorem taken_over (hB : Blk p 0 n) (hS : Srt (fun i => over Z S wt i.val) p 0 n) (hL : (L : Int) = Z - sumTo (part Z S wt) n) (hn : L ≤ n) (hs : sumTo wt n = S) (S0 : 0 < S) (i : Nat) (ht : taken p L i = true) : 0 < over Z S wt i := by
  apply Classical.byContradiction
  intro h0
  obtain ⟨j, j1, rfl⟩ := (taken_iff _ _ _).1 ht
  have e := left_eq Z S wt n hs
  rw [← hL] at e
  have b : sumTo (over Z S wt) n ≤ sumTo (fun x => (S - 1) * (if taken p j x then (1 : Int) else 0)) n := sumTo_le2 fun x hx => by
    have hb := over_bd Z S wt x S0
    cases c : taken p j x
    · obtain ⟨k, k0, k1, k2⟩ := hB.onto x (by omega) hx
      have kj : j ≤ k := by
        apply Classical.byContradiction
        intro hk
        rw [(taken_iff p j x).2 ⟨k, by omega, k2⟩] at c
        cases c
      have : over Z S wt x ≤ over Z S wt p[j]!.val := by
        by_cases ck : k = j
        · subst ck; rw [k2]; exact Int.le_refl _
        · have t := hS j k (by omega) (by omega) k1
          unfold tl at t
          simp only [k2] at t
          omega
      simp; omega
    · simp; omega
  rw [sumTo_mul, count hB hS j (by omega)] at b
  have c1 : (S - 1) * (j : Int) ≤ (S - 1) * (L : Int) := Int.mul_le_mul_of_nonneg_left (by omega) (by omega)
  have c2 : (S - 1) * (L : Int) = (L : Int) * S - L := by rw [Int.sub_mul, Int.one_mul, Int.mul_comm]
  omega
theorem got_near (hB : Blk p 0 n) (hS : Srt (fun i => over Z S wt i.val) p 0 n) (hL : (L : Int) = Z - sumTo (part Z S wt) n) (hn : L ≤ n) (hs : sumTo wt n = S) (S0 : 0 < S) (i : Nat) :
    (got Z S wt p L i - 1) * S < Z * wt i ∧ Z * wt i < (got Z S wt p L i + 1) * S := by
  have e := Int.mul_ediv_add_emod (Z * wt i) S
  have hb := over_bd Z S wt i S0
  have e2 : S * part Z S wt i + over Z S wt i = Z * wt i := e
  have e3 : part Z S wt i * S = S * part Z S wt i := Int.mul_comm _ _
  unfold got
  cases c : taken p L i
  · simp only [Bool.false_eq_true, if_false, Int.add_zero, Int.sub_mul, Int.add_mul, Int.one_mul]
    omega
  · have := taken_over hB hS hL hn hs S0 i c
    simp only [if_true, Int.sub_mul, Int.add_mul, Int.one_mul]
    omega
end

end Go.Proofs.YtefkabkncmflpaaDoor
