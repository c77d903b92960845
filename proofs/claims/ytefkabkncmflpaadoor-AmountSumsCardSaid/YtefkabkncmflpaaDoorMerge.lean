/-
  Plain mathematics of the stable sort's merging: rows that are turned round, cuts, halves.
-/
import Derived.Test.YtefkabkncmflpaaDoorStable
namespace Go.Proofs.YtefkabkncmflpaaDoor
open Go.Sort

variable {m : Nat}

/-- The same numbers between a and b, in whatever order; nothing else has turned. -/
structure Mix (d d' : Array (Pl m)) (a b : Nat) : Prop where
  els : Else d d' a b
  into : ∀ i, a ≤ i → i < b → ∃ j, a ≤ j ∧ j < b ∧ d'[i]! = d[j]!
  onto : ∀ j, a ≤ j → j < b → ∃ i, a ≤ i ∧ i < b ∧ d'[i]! = d[j]!
theorem Mix.refl (d : Array (Pl m)) (a b : Nat) : Mix d d a b := ⟨Else.refl _ _ _, fun i h k => ⟨i, h, k, rfl⟩, fun i h k => ⟨i, h, k, rfl⟩⟩
theorem Mix.trans {d d' d'' : Array (Pl m)} {a b : Nat} (h : Mix d d' a b) (k : Mix d' d'' a b) : Mix d d'' a b := by
  refine ⟨h.els.trans k.els, fun i i1 i2 => ?_, fun j j1 j2 => ?_⟩
  · obtain ⟨j, j1, j2, e⟩ := k.into i i1 i2
    obtain ⟨l, l1, l2, e2⟩ := h.into j j1 j2
    exact ⟨l, l1, l2, e.trans e2⟩
  · obtain ⟨l, l1, l2, e⟩ := h.onto j j1 j2
    obtain ⟨i, i1, i2, e2⟩ := k.onto l l1 l2
    exact ⟨i, i1, i2, e2.trans e⟩
theorem Mix.wide {d d' : Array (Pl m)} {a b a' b' : Nat} (h : Mix d d' a b) (h1 : a' ≤ a) (h2 : b ≤ b') : Mix d d' a' b' := by
  refine ⟨h.els.wide h1 h2, fun i i1 i2 => ?_, fun j j1 j2 => ?_⟩
  · by_cases e : a ≤ i ∧ i < b
    · obtain ⟨j, j1, j2, x⟩ := h.into i e.1 e.2; exact ⟨j, by omega, by omega, x⟩
    · exact ⟨i, i1, i2, h.els.2 i (by omega)⟩
  · by_cases e : a ≤ j ∧ j < b
    · obtain ⟨i, i1, i2, x⟩ := h.onto j e.1 e.2; exact ⟨i, by omega, by omega, x⟩
    · exact ⟨j, j1, j2, h.els.2 j (by omega)⟩
theorem Mix.blk {d d' : Array (Pl m)} {a b : Nat} (h : Mix d d' a b) (k : Blk d a b) : Blk d' a b := by
  refine ⟨fun i i1 i2 => ?_, fun v v1 v2 => ?_⟩
  · obtain ⟨j, j1, j2, e⟩ := h.into i i1 i2
    rw [e]; exact k.into j j1 j2
  · obtain ⟨j, j1, j2, e⟩ := k.onto v v1 v2
    obtain ⟨i, i1, i2, x⟩ := h.onto j j1 j2
    exact ⟨i, i1, i2, by rw [x]; exact e⟩

/-! two stretches change places -/
def SwapR (d d' : Array (Pl m)) (a b n : Nat) : Prop := d'.size = d.size ∧ ∀ k, d'[k]! = if a ≤ k ∧ k < a + n then d[k - a + b]! else if b ≤ k ∧ k < b + n then d[k - b + a]! else d[k]!
theorem SwapR.zero (d : Array (Pl m)) (a b : Nat) : SwapR d d a b 0 := ⟨rfl, fun k => by rw [if_neg (by omega), if_neg (by omega)]⟩
theorem SwapR.succ {d d' : Array (Pl m)} {a b n : Nat} (h : SwapR d d' a b n) (h1 : a + n < b) (h2 : b + n < d.size) : SwapR d (swp d' (a + n) (b + n)) a b (n + 1) := by
  refine ⟨by rw [size_swp]; exact h.1, fun k => ?_⟩
  rw [get_swp d' (a + n) (b + n) k (by rw [h.1]; omega) (by rw [h.1]; omega), h.2, h.2, h.2]
  by_cases e1 : k = b + n
  · subst e1
    rw [if_pos rfl, if_neg (by omega), if_neg (by omega), if_neg (by omega), if_pos (by omega)]
    exact congrArg (fun t => d[t]!) (by omega)
  · rw [if_neg e1]
    by_cases e2 : k = a + n
    · subst e2
      rw [if_pos rfl, if_neg (by omega), if_neg (by omega), if_pos (by omega)]
      exact congrArg (fun t => d[t]!) (by omega)
    · rw [if_neg e2]
      by_cases e3 : a ≤ k ∧ k < a + n
      · rw [if_pos e3, if_pos (by omega)]
      · rw [if_neg e3, if_neg (show ¬ (a ≤ k ∧ k < a + (n + 1)) by omega)]
        by_cases e4 : b ≤ k ∧ k < b + n
        · rw [if_pos e4, if_pos (by omega)]
        · rw [if_neg e4, if_neg (by omega)]

/-- Where the k-th of a turned row came from: the stretch from a to q goes behind the one from q to b. -/
def rot (a q b k : Nat) : Nat := if a ≤ k ∧ k < b then (if k < a + (b - q) then k + (q - a) else k - (b - q)) else k
/-- A row is turned. -/
def Turned (d d' : Array (Pl m)) (a q b : Nat) : Prop := d'.size = d.size ∧ ∀ k, d'[k]! = d[rot a q b k]!
theorem rot_in (a q b k : Nat) (h1 : a ≤ q) (h2 : q ≤ b) (k1 : a ≤ k) (k2 : k < b) : a ≤ rot a q b k ∧ rot a q b k < b := by
  unfold rot; rw [if_pos ⟨k1, k2⟩]; split <;> omega
theorem rot_back (a q b j : Nat) (h1 : a ≤ q) (h2 : q ≤ b) (j1 : a ≤ j) (j2 : j < b) : ∃ i, a ≤ i ∧ i < b ∧ rot a q b i = j := by
  by_cases e : j < q
  · refine ⟨j + (b - q), by omega, by omega, ?_⟩
    unfold rot; rw [if_pos (by omega), if_neg (by omega)]; omega
  · refine ⟨j - (q - a), by omega, by omega, ?_⟩
    unfold rot; rw [if_pos (by omega), if_pos (by omega)]; omega
theorem Turned.mix {d d' : Array (Pl m)} {a q b : Nat} (h : Turned d d' a q b) (h1 : a ≤ q) (h2 : q ≤ b) : Mix d d' a b := by
  refine ⟨⟨h.1, fun i hi => ?_⟩, fun i i1 i2 => ?_, fun j j1 j2 => ?_⟩
  · rw [h.2]; unfold rot; rw [if_neg (by omega)]
  · obtain ⟨r1, r2⟩ := rot_in a q b i h1 h2 i1 i2
    exact ⟨_, r1, r2, h.2 i⟩
  · obtain ⟨i, i1, i2, e⟩ := rot_back a q b j h1 h2 j1 j2
    exact ⟨i, i1, i2, by rw [h.2, e]⟩
theorem rot_left (a b k : Nat) : rot a a b k = k := by
  unfold rot
  by_cases h : a ≤ k ∧ k < b
  · rw [if_pos h]; split <;> omega
  · rw [if_neg h]
theorem rot_right (a b k : Nat) : rot a b b k = k := by
  unfold rot
  by_cases h : a ≤ k ∧ k < b
  · rw [if_pos h]; split <;> omega
  · rw [if_neg h]
theorem Turned.left (d : Array (Pl m)) (a b : Nat) : Turned d d a a b := ⟨rfl, fun k => by
  rw [rot_left]⟩
theorem Turned.right (d : Array (Pl m)) (a b : Nat) : Turned d d a b b := ⟨rfl, fun k => by
  rw [rot_right]⟩

/-- What is left to turn, while stretches change places: from q - i to q + j. -/
def Left (d dk : Array (Pl m)) (a q b i j : Nat) : Prop := dk.size = d.size ∧ ∀ k, d[rot a q b k]! = dk[rot (q - i) q (q + j) k]!
theorem Left.start (d : Array (Pl m)) (a q b : Nat) (h1 : a ≤ q) (h2 : q ≤ b) : Left d d a q b (q - a) (b - q) := ⟨rfl, fun k => by rw [show q - (q - a) = a by omega, show q + (b - q) = b by omega]⟩
theorem Left.more {d dk dl : Array (Pl m)} {a q b i j : Nat} (h : Left d dk a q b i j) (hij : j < i) (hi : i ≤ q) (s : SwapR dk dl (q - i) q j) : Left d dl a q b (i - j) j := by
  refine ⟨s.1.trans h.1, fun k => ?_⟩
  rw [h.2, s.2]
  unfold rot
  by_cases e1 : q - i ≤ k ∧ k < q + j
  · rw [if_pos e1]
    by_cases e2 : k < q - i + j
    · rw [if_pos (by omega), if_neg (show ¬ (q - (i - j) ≤ k ∧ k < q + j) by omega), if_pos (by omega)]
      exact congrArg (fun t => dk[t]!) (by omega)
    · rw [if_neg (by omega), if_pos (show q - (i - j) ≤ k ∧ k < q + j by omega)]
      by_cases e3 : k < q - (i - j) + (q + j - q)
      · rw [if_pos e3, if_neg (by omega), if_pos (by omega)]
        exact congrArg (fun t => dk[t]!) (by omega)
      · rw [if_neg e3, if_neg (by omega), if_neg (by omega)]
  · rw [if_neg e1, if_neg (show ¬ (q - (i - j) ≤ k ∧ k < q + j) by omega), if_neg (by omega), if_neg (by omega)]
theorem Left.less {d dk dl : Array (Pl m)} {a q b i j : Nat} (h : Left d dk a q b i j) (hij : i < j) (hi : i ≤ q) (s : SwapR dk dl (q - i) (q + j - i) i) : Left d dl a q b i (j - i) := by
  refine ⟨s.1.trans h.1, fun k => ?_⟩
  rw [h.2, s.2]
  unfold rot
  by_cases e1 : q - i ≤ k ∧ k < q + (j - i)
  · rw [if_pos (show q - i ≤ k ∧ k < q + j by omega), if_pos e1]
    by_cases e2 : k < q - i + (q + (j - i) - q)
    · rw [if_pos (by omega), if_pos e2, if_neg (by omega), if_neg (by omega)]
    · rw [if_neg e2]
      rw [if_pos (by omega), if_pos (by omega)]
      exact congrArg (fun t => dk[t]!) (by omega)
  · rw [if_neg e1]
    by_cases e2 : q + (j - i) ≤ k ∧ k < q + j
    · rw [if_pos (show q - i ≤ k ∧ k < q + j by omega), if_neg (by omega), if_neg (by omega), if_pos (by omega)]
      exact congrArg (fun t => dk[t]!) (by omega)
    · rw [if_neg (show ¬ (q - i ≤ k ∧ k < q + j) by omega), if_neg (by omega), if_neg (by omega)]
theorem Left.same {d dk dl : Array (Pl m)} {a q b i : Nat} (h : Left d dk a q b i i) (hi : i ≤ q) (s : SwapR dk dl (q - i) q i) : Turned d dl a q b := by
  refine ⟨s.1.trans h.1, fun k => ?_⟩
  rw [h.2, s.2]
  unfold rot
  by_cases e1 : q - i ≤ k ∧ k < q + i
  · rw [if_pos e1]
    by_cases e2 : k < q
    · rw [if_pos (by omega), if_pos (by omega)]
      exact congrArg (fun t => dk[t]!) (by omega)
    · rw [if_neg (by omega), if_pos (by omega), if_neg (by omega)]
      exact congrArg (fun t => dk[t]!) (by omega)
  · rw [if_neg e1, if_neg (by omega), if_neg (by omega)]

/-! two sorted stretches -/
/-- From a to q and from q to b sorted, the earlier numbers in the first. -/
structure Two (r : Pl m → Int) (d : Array (Pl m)) (a q b : Nat) : Prop where
  lo : Srt r d a q
  hi : Srt r d q b
  ahead : ∀ i j, a ≤ i → i < q → q ≤ j → j < b → d[i]!.val < d[j]!.val
/-- All from a to q stand ahead of all from q to b. -/
def Over (r : Pl m → Int) (d : Array (Pl m)) (a q b : Nat) : Prop := ∀ i j, a ≤ i → i < q → q ≤ j → j < b → tl r d[i]! d[j]!
theorem Two.all {r : Pl m → Int} {d : Array (Pl m)} {a q b : Nat} (h : Srt r d a q) (k : Srt r d q b) (o : Over r d a q b) : Srt r d a b := fun i j i1 ij j2 => by
  by_cases e1 : j < q
  · exact h i j i1 ij e1
  · by_cases e2 : q ≤ i
    · exact k i j e2 ij j2
    · exact o i j i1 (by omega) (by omega) j2
theorem Over.mix {r : Pl m → Int} {d d' : Array (Pl m)} {a q b : Nat} (o : Over r d a q b) (h : Mix d d' a q) : Over r d' a q b := fun i j i1 i2 j1 j2 => by
  obtain ⟨l, l1, l2, e⟩ := h.into i i1 i2
  rw [e, h.els.2 j (by omega)]
  exact o l j l1 l2 j1 j2
theorem Over.mix' {r : Pl m → Int} {d d' : Array (Pl m)} {a q b : Nat} (o : Over r d a q b) (h : Mix d d' q b) : Over r d' a q b := fun i j i1 i2 j1 j2 => by
  obtain ⟨l, l1, l2, e⟩ := h.into j j1 j2
  rw [e, h.els.2 i (by omega)]
  exact o i l i1 i2 l1 l2
theorem Srt.else {r : Pl m → Int} {d d' : Array (Pl m)} {a b x y : Nat} (h : Srt r d a b) (e : Else d d' x y) (hx : b ≤ x ∨ y ≤ a) : Srt r d' a b := fun i j i1 ij j2 => by
  rw [e.2 i (by omega), e.2 j (by omega)]
  exact h i j i1 ij j2
theorem Two.else {r : Pl m → Int} {d d' : Array (Pl m)} {a q b x y : Nat} (h : Two r d a q b) (e : Else d d' x y) (hx : b ≤ x ∨ y ≤ a) (h1 : a ≤ q) (h2 : q ≤ b) : Two r d' a q b :=
  ⟨h.lo.else e (by omega), h.hi.else e (by omega), fun i j i1 i2 j1 j2 => by rw [e.2 i (by omega), e.2 j (by omega)]; exact h.ahead i j i1 i2 j1 j2⟩

/-- Where the row is cut: what lies ahead of s and of e stands ahead of what lies behind. -/
structure Cuts (r : Pl m → Int) (d : Array (Pl m)) (a q b s e : Nat) : Prop where
  s1 : a ≤ s
  s2 : s ≤ q
  e1 : q ≤ e
  e2 : e ≤ b
  lr : ∀ i j, a ≤ i → i < s → e ≤ j → j < b → tl r d[i]! d[j]!
  rl : ∀ i j, s ≤ i → i < q → q ≤ j → j < e → tl r d[j]! d[i]!

section
variable {r : Pl m → Int} {d d' : Array (Pl m)} {a q b s e : Nat}
theorem Cuts.at (h : Cuts r d a q b s e) (t : Turned d d' s q e) (k : Nat) : d'[k]! = if k < s ∨ e ≤ k then d[k]! else if k < s + (e - q) then d[k + (q - s)]! else d[k - (e - q)]! := by
  have := h.s2; have := h.e1
  rw [t.2]
  unfold rot
  by_cases c : k < s ∨ e ≤ k
  · rw [if_pos c, if_neg (by omega)]
  · rw [if_neg c, if_pos (by omega)]
    by_cases c2 : k < s + (e - q)
    · rw [if_pos c2, if_pos c2]
    · rw [if_neg c2, if_neg c2]
theorem Cuts.a1 (h : Cuts r d a q b s e) (t : Turned d d' s q e) {k : Nat} (c : k < s ∨ e ≤ k) : d'[k]! = d[k]! := by rw [h.at t, if_pos c]
theorem Cuts.a2 (h : Cuts r d a q b s e) (t : Turned d d' s q e) {k : Nat} (c : s ≤ k) (g : k < s + (e - q)) : d'[k]! = d[k + (q - s)]! := by
  have := h.s2; have := h.e1
  rw [h.at t, if_neg (by omega), if_pos g]
theorem Cuts.a3 (h : Cuts r d a q b s e) (t : Turned d d' s q e) {k : Nat} (c : s + (e - q) ≤ k) (g : k < e) : d'[k]! = d[k - (e - q)]! := by
  have := h.s2; have := h.e1
  rw [h.at t, if_neg (by omega), if_neg (by omega)]
/-- Behind the turn: the halves, each of two sorted stretches. -/
theorem Cuts.low (h : Cuts r d a q b s e) (w : Two r d a q b) (t : Turned d d' s q e) : Two r d' a s (s + (e - q)) := by
  have h1 := h.s1; have h2 := h.s2; have h3 := h.e1; have h4 := h.e2
  refine ⟨fun i j i1 ij j2 => ?_, fun i j i1 ij j2 => ?_, fun i j i1 i2 j1 j2 => ?_⟩
  · rw [h.a1 t (k := i) (by omega), h.a1 t (k := j) (by omega)]
    exact w.lo i j i1 ij (by omega)
  · rw [h.a2 t (k := i) (by omega) (by omega), h.a2 t (k := j) (by omega) (by omega)]
    exact w.hi _ _ (by omega) (by omega) (by omega)
  · rw [h.a1 t (k := i) (by omega), h.a2 t (k := j) (by omega) (by omega)]
    exact w.ahead _ _ i1 (by omega) (by omega) (by omega)
theorem Cuts.high (h : Cuts r d a q b s e) (w : Two r d a q b) (t : Turned d d' s q e) : Two r d' (s + (e - q)) e b := by
  have h1 := h.s1; have h2 := h.s2; have h3 := h.e1; have h4 := h.e2
  refine ⟨fun i j i1 ij j2 => ?_, fun i j i1 ij j2 => ?_, fun i j i1 i2 j1 j2 => ?_⟩
  · rw [h.a3 t (k := i) (by omega) (by omega), h.a3 t (k := j) (by omega) (by omega)]
    exact w.lo _ _ (by omega) (by omega) (by omega)
  · rw [h.a1 t (k := i) (by omega), h.a1 t (k := j) (by omega)]
    exact w.hi _ _ (by omega) (by omega) (by omega)
  · rw [h.a3 t (k := i) (by omega) (by omega), h.a1 t (k := j) (by omega)]
    exact w.ahead _ _ (by omega) (by omega) (by omega) j2
theorem Cuts.over (h : Cuts r d a q b s e) (w : Two r d a q b) (t : Turned d d' s q e) : Over r d' a (s + (e - q)) b := fun i j i1 i2 j1 j2 => by
  have h1 := h.s1; have h2 := h.s2; have h3 := h.e1; have h4 := h.e2
  by_cases c1 : i < s
  · rw [h.a1 t (k := i) (by omega)]
    by_cases c2 : e ≤ j
    · rw [h.a1 t (k := j) (by omega)]
      exact h.lr i j i1 c1 c2 j2
    · rw [h.a3 t (k := j) (by omega) (by omega)]
      exact w.lo i _ i1 (by omega) (by omega)
  · rw [h.a2 t (k := i) (by omega) (by omega)]
    by_cases c2 : e ≤ j
    · rw [h.a1 t (k := j) (by omega)]
      exact w.hi _ j (by omega) (by omega) j2
    · rw [h.a3 t (k := j) (by omega) (by omega)]
      exact h.rl _ _ (by omega) (by omega) (by omega) (by omega)
end

/-! the search for the cut -/
/-- Of a number of the second stretch and one of the first the test tells the order. -/
theorem Two.test {r : Pl m → Int} {d : Array (Pl m)} {a q b : Nat} (w : Two r d a q b) (i j : Nat) (i1 : a ≤ i) (i2 : i < q) (j1 : q ≤ j) (j2 : j < b) :
    (r d[i]! < r d[j]! → tl r d[j]! d[i]!) ∧ (¬ r d[i]! < r d[j]! → tl r d[i]! d[j]!) := by
  have hlt := w.ahead i j i1 i2 j1 j2
  refine ⟨fun h => (tl_of_lt hlt).2 h, fun h => ?_⟩
  rcases tl_total (r := r) (x := d[i]!) (y := d[j]!) (by omega) with t | t
  · exact t
  · exact absurd ((tl_of_lt hlt).1 t) h
theorem Srt.le {r : Pl m → Int} {d : Array (Pl m)} {a b i j : Nat} (h : Srt r d a b) (i1 : a ≤ i) (ij : i ≤ j) (j2 : j < b) : i = j ∨ tl r d[i]! d[j]! := by
  by_cases e : i = j
  · exact Or.inl e
  · exact Or.inr (h i j i1 (by omega) j2)

end Go.Proofs.YtefkabkncmflpaaDoor
