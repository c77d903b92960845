/-
  Plain mathematics of the stable sort: places 0 to n - 1 by their rests, the greatest first; of equal ones the one that stands first.
-/
import Derived.Sort.Row
import Derived.Sort.WalkA
import Derived.Shelf.SlSortCmp.Insertion
namespace Go.Proofs.YtefkabkncmflpaaDoor
open Go.Sort

variable {m : Nat}
abbrev Pl (m : Nat) := Fin (m + 1)
/-- x stands ahead of y. -/
def tl (r : Pl m → Int) (x y : Pl m) : Prop := r y < r x ∨ (r x = r y ∧ x.val < y.val)
theorem tl_trans {r : Pl m → Int} {x y z : Pl m} (h : tl r x y) (k : tl r y z) : tl r x z := by unfold tl at *; omega
theorem tl_irrefl {r : Pl m → Int} {x : Pl m} : ¬ tl r x x := by unfold tl; omega
theorem tl_total {r : Pl m → Int} {x y : Pl m} (h : x.val ≠ y.val) : tl r x y ∨ tl r y x := by unfold tl; omega
/-- Of a later place the test tells the order. -/
theorem tl_of_lt {r : Pl m → Int} {x y : Pl m} (h : y.val < x.val) : tl r x y ↔ r y < r x := by unfold tl; omega

theorem get_swp {α : Type} [Inhabited α] (d : Array α) (i j k : Nat) (hi : i < d.size) (hj : j < d.size) : (swp d i j)[k]! = if k = j then d[i]! else if k = i then d[j]! else d[k]! := by
  unfold swp
  by_cases h : k = j
  · subst h; rw [if_pos rfl, getElem!_set_same _ _ _ (by simpa using hj)]
  · rw [if_neg h, getElem!_set_other _ _ _ _ h]
    by_cases h2 : k = i
    · subst h2; rw [if_pos rfl, getElem!_set_same _ _ _ hi]
    · rw [if_neg h2, getElem!_set_other _ _ _ _ h2]

/-- The places from a to b hold just the numbers from a to b. -/
structure Blk (d : Array (Pl m)) (a b : Nat) : Prop where
  into : ∀ i, a ≤ i → i < b → a ≤ d[i]!.val ∧ d[i]!.val < b
  onto : ∀ v, a ≤ v → v < b → ∃ i, a ≤ i ∧ i < b ∧ d[i]!.val = v
/-- Nothing else has turned. -/
def Else (d d' : Array (Pl m)) (a b : Nat) : Prop := d'.size = d.size ∧ ∀ i, (i < a ∨ b ≤ i) → d'[i]! = d[i]!
def Srt (r : Pl m → Int) (d : Array (Pl m)) (a b : Nat) : Prop := ∀ i j, a ≤ i → i < j → j < b → tl r d[i]! d[j]!

theorem Else.refl (d : Array (Pl m)) (a b : Nat) : Else d d a b := ⟨rfl, fun _ _ => rfl⟩
theorem Else.trans {d d' d'' : Array (Pl m)} {a b : Nat} (h : Else d d' a b) (k : Else d' d'' a b) : Else d d'' a b := ⟨k.1.trans h.1, fun i hi => (k.2 i hi).trans (h.2 i hi)⟩
theorem Else.wide {d d' : Array (Pl m)} {a b a' b' : Nat} (h : Else d d' a b) (h1 : a' ≤ a) (h2 : b ≤ b') : Else d d' a' b' := ⟨h.1, fun i hi => h.2 i (by omega)⟩
theorem Else.swp (d : Array (Pl m)) {a b i j : Nat} (hi : i < d.size) (hj : j < d.size) (h1 : a ≤ i) (h2 : i < b) (h3 : a ≤ j) (h4 : j < b) : Else d (swp d i j) a b :=
  ⟨size_swp _ _ _, fun k hk => by rw [get_swp d i j k hi hj, if_neg (by omega), if_neg (by omega)]⟩
theorem Blk.swp {d : Array (Pl m)} {a b i j : Nat} (h : Blk d a b) (hi : i < d.size) (hj : j < d.size) (h1 : a ≤ i) (h2 : i < b) (h3 : a ≤ j) (h4 : j < b) : Blk (swp d i j) a b := by
  refine ⟨fun k k1 k2 => ?_, fun v v1 v2 => ?_⟩
  · rw [get_swp d i j k hi hj]
    split
    · exact h.into i h1 h2
    · split
      · exact h.into j h3 h4
      · exact h.into k k1 k2
  · obtain ⟨k, k1, k2, k3⟩ := h.onto v v1 v2
    by_cases e : k = i
    · exact ⟨j, h3, h4, by rw [get_swp d i j j hi hj, if_pos rfl, ← e]; exact k3⟩
    · by_cases e2 : k = j
      · refine ⟨i, h1, h2, ?_⟩
        rw [get_swp d i j i hi hj]
        by_cases e3 : i = j
        · omega
        · rw [if_neg e3, if_pos rfl, ← e2]; exact k3
      · exact ⟨k, k1, k2, by rw [get_swp d i j k hi hj, if_neg e2, if_neg e]; exact k3⟩

/-! insertion -/
/-- The state while the number i is let down to its place j. -/
structure Down (r : Pl m → Int) (d : Array (Pl m)) (a i j : Nat) : Prop where
  blk : Blk d a (i + 1)
  at_j : d[j]!.val = i
  rest : ∀ p q, a ≤ p → p < q → q < i + 1 → p ≠ j → q ≠ j → tl r d[p]! d[q]!
  over : ∀ q, j < q → q < i + 1 → tl r d[j]! d[q]!

theorem insInner_sorts (r : Pl m → Int) (lt : Pl m → Pl m → Bool) (hlt : ∀ x y, lt x y = decide (r y < r x)) (a i : Nat) : ∀ (j : Nat) (d : Array (Pl m)), a ≤ j → j ≤ i → i < d.size → Down r d a i j →
    (∀ p, a ≤ p → p < i + 1 → p ≠ j → d[p]!.val ≠ i) →
    Blk (insInner lt a j d) a (i + 1) ∧ Srt r (insInner lt a j d) a (i + 1) ∧ Else d (insInner lt a j d) a (i + 1) := by
  intro j
  induction j with
  | zero =>
    intro d haj hji hs h hne
    obtain rfl : a = 0 := by omega
    refine ⟨h.blk, fun p q h1 h2 h3 => ?_, Else.refl _ _ _⟩
    show tl r d[p]! d[q]!
    by_cases e : p = 0
    · subst e; exact h.over q h2 h3
    · exact h.rest p q h1 h2 h3 e (by omega)
  | succ j ih =>
    intro d haj hji hs h hne
    by_cases hg : j + 1 > a ∧ lt d[j + 1]! d[j]! = true
    · have hlt2 : d[j]!.val < d[j + 1]!.val := by
        have h1 := h.blk.into j (by omega) (by omega)
        have h2 := hne j (by omega) (by omega) (by omega)
        have h3 := h.at_j
        omega
      have ht : tl r d[j + 1]! d[j]! := by
        have := hg.2
        rw [hlt, decide_eq_true_eq] at this
        exact (tl_of_lt hlt2).2 this
      rw [insInner_go lt a (j + 1) d hg.1 hg.2]
      simp only [Nat.add_sub_cancel]
      have gs := fun k => get_swp d (j + 1) j k (by omega) (by omega)
      have hd : Down r (swp d (j + 1) j) a i j := by
        refine ⟨h.blk.swp (by omega) (by omega) (by omega) (by omega) (by omega) (by omega), by rw [gs, if_pos rfl]; exact h.at_j, fun p q h1 h2 h3 h4 h5 => ?_, fun q h1 h2 => ?_⟩
        · rw [gs p, gs q, if_neg h4, if_neg h5]
          by_cases e1 : p = j + 1
          · rw [if_pos e1, if_neg (by omega)]
            exact h.rest j q (by omega) (by omega) h3 (by omega) (by omega)
          · rw [if_neg e1]
            by_cases e2 : q = j + 1
            · rw [if_pos e2]; exact h.rest p j h1 (by omega) (by omega) e1 (by omega)
            · rw [if_neg e2]; exact h.rest p q h1 h2 h3 e1 e2
        · rw [gs j, if_pos rfl, gs q, if_neg (by omega)]
          by_cases e : q = j + 1
          · rw [if_pos e]; exact ht
          · rw [if_neg e]; exact h.over q (by omega) h2
      have hne' : ∀ p, a ≤ p → p < i + 1 → p ≠ j → (swp d (j + 1) j)[p]!.val ≠ i := fun p h1 h2 h3 => by
        rw [gs p, if_neg h3]
        by_cases e : p = j + 1
        · rw [if_pos e]; exact hne j (by omega) (by omega) (by omega)
        · rw [if_neg e]; exact hne p h1 h2 e
      have := ih (swp d (j + 1) j) (by omega) (by omega) (by rw [size_swp]; exact hs) hd hne'
      exact ⟨this.1, this.2.1, (Else.swp d (by omega) (by omega) (by omega) (by omega) (by omega) (by omega)).trans this.2.2⟩
    · have hst : j + 1 ≤ a ∨ lt d[j + 1]! d[j + 1 - 1]! = false := by
        by_cases e : j + 1 ≤ a
        · exact Or.inl e
        · right
          simp only [Nat.add_sub_cancel]
          cases hl : lt d[j + 1]! d[j]!
          · rfl
          · exact absurd ⟨by omega, hl⟩ hg
      rw [insInner_stop lt a (j + 1) d hst]
      refine ⟨h.blk, fun p q h1 h2 h3 => ?_, Else.refl _ _ _⟩
      by_cases e1 : p = j + 1
      · subst e1; exact h.over q h2 h3
      · by_cases e2 : q = j + 1
        · subst e2
          have hl : lt d[j + 1]! d[j]! = false := by
            rcases hst with hst | hst
            · omega
            · simpa using hst
          have hlt2 : d[j]!.val < d[j + 1]!.val := by
            have h1 := h.blk.into j (by omega) (by omega)
            have h2 := hne j (by omega) (by omega) (by omega)
            have h3 := h.at_j
            omega
          have hj : tl r d[j]! d[j + 1]! := by
            rcases tl_total (r := r) (x := d[j]!) (y := d[j + 1]!) (by omega) with t | t
            · exact t
            · rw [tl_of_lt hlt2] at t
              rw [hlt, decide_eq_false_iff_not] at hl
              exact absurd t hl
          by_cases e3 : p = j
          · subst e3; exact hj
          · exact tl_trans (h.rest p j h1 (by omega) (by omega) e1 (by omega)) hj
        · exact h.rest p q h1 h2 h3 e1 e2

theorem insOuter_sorts (r : Pl m → Int) (lt : Pl m → Pl m → Bool) (hlt : ∀ x y, lt x y = decide (r y < r x)) (a b : Nat) : ∀ (k i : Nat) (d : Array (Pl m)), b - i = k → a < i → b ≤ d.size → i ≤ b ∨ b ≤ a + 1 →
    (i ≤ b → Blk d a i ∧ Srt r d a i) → (∀ p, i ≤ p → p < b → d[p]!.val = p) → (b ≤ a + 1 → i = a + 1) → (b = a + 1 → d[a]!.val = a) →
    Blk (insOuter lt a b i d) a b ∧ Srt r (insOuter lt a b i d) a b ∧ Else d (insOuter lt a b i d) a b := by
  intro k
  induction k with
  | zero =>
    intro i d hk hai hb hib hbs hid h1 h2
    rw [insOuter_stop lt a b i d (by omega)]
    by_cases e : i = b
    · subst e
      have := hbs (Nat.le_refl _)
      exact ⟨this.1, this.2, Else.refl _ _ _⟩
    · have : b ≤ a := by have := h1 (by omega); omega
      exact ⟨⟨fun i h1 h2 => by omega, fun v h1 h2 => by omega⟩, fun p q h1 h2 h3 => by omega, Else.refl _ _ _⟩
  | succ k ih =>
    intro i d hk hai hb hib hbs hid h1 h2
    have hi : i < b := by omega
    rw [insOuter_go lt a b i d hi]
    obtain ⟨hB, hS⟩ := hbs (by omega)
    have hd : Down r d a i i := by
      refine ⟨⟨fun p p1 p2 => ?_, fun v v1 v2 => ?_⟩, hid i (Nat.le_refl _) hi, fun p q q1 q2 q3 q4 q5 => hS p q q1 q2 (by omega), fun q q1 q2 => by omega⟩
      · by_cases e : p = i
        · subst e; rw [hid p (Nat.le_refl _) hi]; omega
        · have := hB.into p p1 (by omega); omega
      · by_cases e : v = i
        · exact ⟨i, by omega, by omega, by rw [e]; exact hid i (Nat.le_refl _) hi⟩
        · obtain ⟨p, p1, p2, p3⟩ := hB.onto v v1 (by omega)
          exact ⟨p, p1, by omega, p3⟩
    have hn : ∀ p, a ≤ p → p < i + 1 → p ≠ i → d[p]!.val ≠ i := fun p p1 p2 p3 => by have := hB.into p p1 (by omega); omega
    obtain ⟨r1, r2, r3⟩ := insInner_sorts r lt hlt a i i d (by omega) (Nat.le_refl _) (by omega) hd hn
    have := ih (i + 1) (insInner lt a i d) (by omega) (by omega) (by rw [r3.1]; exact hb) (by omega) (fun _ => ⟨r1, r2⟩) (fun p p1 p2 => by rw [r3.2 p (by omega)]; exact hid p (by omega) p2) (by omega) (by omega)
    exact ⟨this.1, this.2.1, (r3.wide (Nat.le_refl _) (by omega)).trans this.2.2⟩

/-- A block that holds its own numbers, sorted by insertion. -/
theorem insertion_sorts (r : Pl m → Int) (lt : Pl m → Pl m → Bool) (hlt : ∀ x y, lt x y = decide (r y < r x)) (a b : Nat) (d : Array (Pl m)) (hab : a ≤ b) (hb : b ≤ d.size) (hid : ∀ p, a ≤ p → p < b → d[p]!.val = p) :
    Blk (insertionSort lt d a b) a b ∧ Srt r (insertionSort lt d a b) a b ∧ Else d (insertionSort lt d a b) a b := by
  unfold insertionSort
  refine insOuter_sorts r lt hlt a b _ (a + 1) d rfl (by omega) hb (by omega) (fun h => ⟨⟨fun i h1 h2 => ?_, fun v h1 h2 => ?_⟩, fun p q h1 h2 h3 => by omega⟩) (fun p h1 h2 => hid p (by omega) h2) (by omega) (fun h => hid a (Nat.le_refl _) (by omega))
  · obtain rfl : i = a := by omega
    rw [hid i h1 (by omega)]; omega
  · exact ⟨a, Nat.le_refl _, by omega, by rw [hid a (Nat.le_refl _) (by omega)]; omega⟩

end Go.Proofs.YtefkabkncmflpaaDoor
