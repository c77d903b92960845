/-
  What both answer of days that come back.
-/
import Derived.Test.YtfcgmhkfehcdaaaWkJ
namespace Go.Proofs.Ytfcgmhkfehcdaaa
open Go.RowKit

theorem addP_er (y m d k : Int) : (addP y m d k).2 = 0 ∨ (addP y m d k).2 = 6 := by unfold addP; split <;> simp
theorem due_first (y m d s : Int) (n : Nat) : (∀ i, i < n → (dueP y m d s i).2 = 0) ∨ ∃ j, j < n ∧ (dueP y m d s j).2 = 6 ∧ ∀ i, i < j → (dueP y m d s i).2 = 0 := by
  induction n with
  | zero => exact .inl fun i hi => by omega
  | succ n ih =>
    rcases ih with h | ⟨j, h1, h2, h3⟩
    · rcases addP_er y m d (((n : Int) + 1) * s) with c | c
      · refine .inl fun i hi => ?_
        by_cases e : i = n
        · subst e; exact c
        · exact h i (by omega)
      · exact .inr ⟨n, by omega, c, h⟩
    · exact .inr ⟨j, by omega, h2, h3⟩

/-- Both answer the same list and the same error. -/
def BothD (a s n : Int) (K : Nat) (G : Nat → Int) (er : Int) : Prop :=
  (∀ w, Calls Try.prog 9 #[.int .i64 a, .int .i64 s, .int .i64 n] w (Res w K G er)) ∧
  (∀ w, Calls Try.prog 10 #[.int .i64 a, .int .i64 s, .int .i64 n] w (Res w K G er))
theorem res_nil {w w' : World} {G : Nat → Int} {er : Int} {e : Ending} (h : e = .returned (.tuple #[.slice none 0 0, .int .i64 er]) ∧ Below w.heap.size w w') : Res w 0 G er e w' :=
  ⟨none, 0, h.1, .inl rfl, h.2⟩

theorem dues_both (a s n : Int) : ∃ K G er, K ≤ 9223372036854775807 ∧ BothD a s n K G er := by
  by_cases h : Many s n
  · by_cases g : -719162 ≤ a ∧ a ≤ 2932896
    · obtain ⟨y, m, d, v, rfl⟩ := date_of a g.1 g.2
      obtain ⟨h0, h1, h2, h3⟩ := h
      obtain ⟨N, rfl⟩ : ∃ N : Nat, n = N := ⟨n.toNat, by omega⟩
      rcases due_first y m d s N with hall | ⟨j, hj, hs, hall⟩
      · exact ⟨N, _, 0, by omega, fun w => dues_ok y m d s N w v h0 h1 (by omega) hall, fun w => duesR_ok y m d s N w v h0 h1 (by omega) hall⟩
      · exact ⟨0, fun _ => 0, 6, by omega, fun w => (dues_stop y m d s N j w v h0 h1 (by omega) hj hs hall).mono fun _ _ h => res_nil h, fun w => (duesR_stop y m d s N j w v h0 h1 (by omega) hj hs hall).mono fun _ _ h => res_nil h⟩
    · exact ⟨0, fun _ => 0, 6, by omega, fun w => (dues_date a s n w h g).mono fun _ _ h => res_none h, fun w => (duesR_date a s n w h g).mono fun _ _ h => res_none h⟩
  · exact ⟨0, fun _ => 0, 2, by omega, fun w => (dues_range a s n w h).mono fun _ _ h => res_none h, fun w => (duesR_range a s n w h).mono fun _ _ h => res_none h⟩

end Go.Proofs.Ytfcgmhkfehcdaaa
