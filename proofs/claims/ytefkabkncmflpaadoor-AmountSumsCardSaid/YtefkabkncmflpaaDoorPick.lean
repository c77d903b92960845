/-
  Plain: who has the greatest rest, one after the other: the order of the sort.
-/
import Derived.Test.YtefkabkncmflpaaDoorShare
import Derived.Test.YtefkabkncmflpaaDoorMerge
namespace Go.Proofs.YtefkabkncmflpaaDoor
open Go.Sort

variable {m : Nat}

theorem sorted_exists (r : Pl m → Int) : ∃ p : Array (Pl m), p.size = m + 1 ∧ Blk p 0 (m + 1) ∧ Srt r p 0 (m + 1) := by
  have hs : (Array.ofFn (n := m + 1) fun i => i : Array (Pl m)).size = m + 1 := by simp
  have h := insertion_sorts r (fun x y => decide (r y < r x)) (fun _ _ => rfl) 0 (m + 1) (Array.ofFn (n := m + 1) fun i => i) (by omega) (by rw [hs]; exact Nat.le_refl _) (fun p _ hp => by
    rw [getElem!_pos _ p (by rw [hs]; exact hp)]
    simp)
  exact ⟨_, h.2.2.1.trans hs, h.1, h.2.1⟩

theorem sorted_one {r : Pl m → Int} {p p' : Array (Pl m)} {n : Nat} (h : Blk p 0 n) (s : Srt r p 0 n) (h' : Blk p' 0 n) (s' : Srt r p' 0 n) : ∀ j, j < n → p[j]! = p'[j]! := by
  have half : ∀ {p p' : Array (Pl m)}, Blk p 0 n → Srt r p 0 n → Blk p' 0 n → Srt r p' 0 n → ∀ j, j < n → (∀ i, i < j → p[i]! = p'[i]!) → p[j]! = p'[j]! ∨ tl r p'[j]! p[j]! := by
    intro p p' h s h' s' j hj ih
    obtain ⟨i, i0, i1, e⟩ := h'.onto p[j]!.val (by omega) (h.into j (by omega) hj).2
    have e' : p'[i]! = p[j]! := Fin.ext e
    by_cases c : i < j
    · rw [← ih i c] at e'
      have := s i j (by omega) c hj
      rw [e'] at this
      exact absurd this tl_irrefl
    · by_cases c2 : i = j
      · subst c2; exact Or.inl e'.symm
      · right
        have := s' j i (by omega) (by omega) i1
        rw [e'] at this; exact this
  intro j
  induction j using Nat.strongRecOn with
  | _ j ih =>
    intro hj
    have ihl : ∀ i, i < j → p[i]! = p'[i]! := fun i hi => ih i hi (by omega)
    rcases half h s h' s' j hj ihl with e | e
    · exact e
    · rcases half h' s' h s j hj (fun i hi => (ihl i hi).symm) with e2 | e2
      · exact e2.symm
      · exact absurd (tl_trans e e2) tl_irrefl

theorem taken_succ (p : Array (Pl m)) (j i : Nat) : taken p (j + 1) i = true ↔ taken p j i = true ∨ p[j]!.val = i := by
  rw [taken_iff, taken_iff]
  constructor
  · rintro ⟨k, k1, k2⟩
    by_cases e : k = j
    · subst e; exact Or.inr k2
    · exact Or.inl ⟨k, by omega, k2⟩
  · rintro (⟨k, k1, k2⟩ | e)
    · exact ⟨k, by omega, k2⟩
    · exact ⟨j, by omega, e⟩
theorem taken_one {r : Pl m → Int} {p p' : Array (Pl m)} {n : Nat} (h : Blk p 0 n) (s : Srt r p 0 n) (h' : Blk p' 0 n) (s' : Srt r p' 0 n) (L i : Nat) (hL : L ≤ n) : taken p L i = taken p' L i := by
  rw [Bool.eq_iff_iff, taken_iff, taken_iff]
  constructor
  · rintro ⟨j, j1, j2⟩; exact ⟨j, j1, by rw [← sorted_one h s h' s' j (by omega)]; exact j2⟩
  · rintro ⟨j, j1, j2⟩; exact ⟨j, j1, by rw [sorted_one h s h' s' j (by omega)]; exact j2⟩

/-- The rests when the first j of the order are struck. -/
def picked (R : Nat → Int) (p : Array (Pl m)) (j i : Nat) : Int := if taken p j i then -1 else R i
/-- The first of the greatest so far. -/
def Top (R : Nat → Int) (i a : Nat) : Prop := (a < i ∨ (i = 0 ∧ a = 0)) ∧ ∀ x, x < i → R x ≤ R a ∧ (x < a → R x < R a)
theorem Top.start (R : Nat → Int) : Top R 0 0 := ⟨Or.inr ⟨rfl, rfl⟩, fun x h => by omega⟩
theorem Top.more {R : Nat → Int} {i a : Nat} (h : Top R i a) (g : R a < R i) : Top R (i + 1) i := by
  refine ⟨Or.inl (by omega), fun x hx => ?_⟩
  by_cases e : x = i
  · subst e; exact ⟨Int.le_refl _, fun h => by omega⟩
  · have := h.2 x (by omega); exact ⟨by omega, fun _ => by omega⟩
theorem Top.same {R : Nat → Int} {i a : Nat} (h : Top R i a) (g : ¬ R a < R i) : Top R (i + 1) a := by
  refine ⟨?_, fun x hx => ?_⟩
  · rcases h.1 with c | ⟨c1, c2⟩
    · exact Or.inl (by omega)
    · exact Or.inl (by omega)
  · by_cases e : x = i
    · subst e; exact ⟨by omega, fun c => by rcases h.1 with c1 | ⟨c1, c2⟩ <;> omega⟩
    · exact h.2 x (by omega)

theorem top_is {R : Nat → Int} {p : Array (Pl m)} {n j a : Nat} (hB : Blk p 0 n) (hS : Srt (fun i => R i.val) p 0 n) (hR : ∀ i, 0 ≤ R i) (hj : j < n) (h : Top (picked R p j) n a) : a = p[j]!.val := by
  have unt : taken p j p[j]!.val = false := by
    cases e : taken p j p[j]!.val
    · rfl
    · obtain ⟨k, k1, k2⟩ := (taken_iff _ _ _).1 e
      have := hS k j (by omega) k1 hj
      rw [show p[k]! = p[j]! from Fin.ext k2] at this
      exact absurd this tl_irrefl
  have ej : picked R p j p[j]!.val = R p[j]!.val := by unfold picked; rw [unt]; rfl
  have hpj := (hB.into j (by omega) hj).2
  have an : a < n := by rcases h.1 with c | ⟨c1, c2⟩ <;> omega
  -- whoever isn't struck stands behind p[j]
  have best : ∀ x, x < n → picked R p j x ≤ R p[j]!.val ∧ (picked R p j x = R p[j]!.val → p[j]!.val ≤ x) := fun x hx => by
    have h0 := hR p[j]!.val
    unfold picked
    cases e : taken p j x
    · obtain ⟨k, k0, k1, k2⟩ := hB.onto x (by omega) hx
      have kj : j ≤ k := by
        apply Classical.byContradiction
        intro c
        rw [(taken_iff p j x).2 ⟨k, by omega, k2⟩] at e
        cases e
      by_cases c : k = j
      · subst c
        rw [← k2]
        exact ⟨by simp, fun _ => Nat.le_refl _⟩
      · have t := hS j k (by omega) (by omega) k1
        unfold tl at t
        simp only [k2] at t
        simp only [Bool.false_eq_true, if_false]
        omega
    · simp only [if_true]
      exact ⟨by omega, fun c => by omega⟩
  have t1 := h.2 p[j]!.val hpj
  rw [ej] at t1
  have t2 := best a an
  have eq : picked R p j a = R p[j]!.val := by omega
  have := t2.2 eq
  by_cases c : p[j]!.val < a
  · have := t1.2 c; omega
  · omega

theorem picked_step (R : Nat → Int) (p : Array (Pl m)) (j : Nat) : (fun i => if i = p[j]!.val then (-1 : Int) else picked R p j i) = picked R p (j + 1) := by
  funext i
  unfold picked
  by_cases e : i = p[j]!.val
  · rw [if_pos e, (taken_succ p j i).2 (Or.inr e.symm)]; rfl
  · rw [if_neg e]
    have : taken p (j + 1) i = taken p j i := by
      rw [Bool.eq_iff_iff, taken_succ]
      constructor
      · rintro (h | h)
        · exact h
        · exact absurd h.symm e
      · exact Or.inl
    rw [this]

end Go.Proofs.YtefkabkncmflpaaDoor
