/-
  Plain: frames that break off; what is read of them, once more.
-/
import Derived.Test.YtjppklgegpmfpaaGreatDoorSgB
import Derived.Test.YtjppklgegpmfpaaGreatDoorFwC
namespace Go.Proofs.YtjppklgegpmfpaaGreatDoor

/-- A record that may be put. -/
def Fine (r : List Int) : Prop := Byt r ∧ r.length ≤ 5000
theorem torn_put (p : List Int) (t : Nat) (hB : Byt p) (hl : p.length ≤ 2097152) (h0 : 0 < t) (ht : t < 8 + p.length) : (readL ((putL p).take t)).2.2 ≠ 0 := by
  have hlen : ((putL p).take t).length = t := by rw [List.length_take, putL_len]; omega
  have hne : (putL p).take t ≠ [] := fun e => by rw [e] at hlen; simp at hlen; omega
  by_cases h8 : t < 8
  · rw [readL_few _ hne (by omega)]
    simp
  · have hnum : numL ((putL p).take t) = (p.length : Int) := by
      rw [← numL_take, List.take_take, Nat.min_eq_left (by omega)]
      have : (putL p).take 4 = fourL p.length := by unfold putL; exact List.take_left' rfl
      rw [this, ← List.append_nil (fourL _)]
      exact num_four _ _ (by omega) (by omega)
    rw [readL_torn (m := p.length) (by omega) hnum (by omega) (by omega)]
    simp
/-- Of frames, as far as they go: the first payloads, and all whose frames are there. -/
theorem allL_upto : ∀ (ps : List (List Int)) (t a : Nat), (∀ r ∈ ps, Fine r) → a ≤ ps.length → (flatL (ps.take a)).length ≤ t → ∃ j, a ≤ j ∧ j ≤ ps.length ∧ (allL ((flatL ps).take t)).1 = ps.take j
  | [], t, a, _, ha, _ => ⟨0, by simpa using ha, Nat.le_refl _, by simp [flatL, allL_nil]⟩
  | p :: ps, t, a, h, ha, ht => by
    obtain ⟨hB, hl⟩ := h p (by simp)
    by_cases hlt : t < 8 + p.length
    · have ha0 : a = 0 := by
        rcases Nat.eq_zero_or_pos a with e | e
        · exact e
        · obtain ⟨b, rfl⟩ : ∃ b, a = b + 1 := ⟨a - 1, by omega⟩
          rw [List.take_succ_cons, flatL, List.length_append, putL_len] at ht
          omega
      subst ha0
      refine ⟨0, Nat.le_refl _, Nat.zero_le _, ?_⟩
      rw [List.take_zero]
      have e : (flatL (p :: ps)).take t = (putL p).take t := by
        rw [flatL, List.take_append_of_le_length (by rw [putL_len]; omega)]
      rw [e]
      rcases Nat.eq_zero_or_pos t with e0 | e0
      · rw [e0, List.take_zero, allL_nil]
      · have hne : (putL p).take t ≠ [] := fun e => by
          have := congrArg List.length e
          rw [List.length_take, putL_len] at this
          simp at this
          omega
        rw [allL_bad _ hne (torn_put p t hB (by omega) e0 hlt)]
    · have e : (flatL (p :: ps)).take t = putL p ++ (flatL ps).take (t - (8 + p.length)) := by
        rw [flatL, List.take_append, putL_len, List.take_of_length_le (by rw [putL_len]; omega)]
      rw [e, allL_put p _ hB (by omega)]
      obtain ⟨j, h1, h2, h3⟩ := allL_upto ps (t - (8 + p.length)) (a - 1) (fun r hr => h r (List.mem_cons_of_mem _ hr)) (by simp at ha; omega) (by
        rcases Nat.eq_zero_or_pos a with e | e
        · subst e
          simp [flatL]
        · obtain ⟨b, rfl⟩ : ∃ b, a = b + 1 := ⟨a - 1, by omega⟩
          rw [List.take_succ_cons, flatL, List.length_append, putL_len] at ht
          simp only [Nat.add_sub_cancel]
          omega)
      exact ⟨j + 1, by omega, by simp; omega, by rw [h3]; rfl⟩
/-- What is whole, read alone. -/
theorem allL_fix : ∀ (n : Nat) (L : List Int), L.length ≤ n → allL (L.take (allL L).2.1) = ((allL L).1, (allL L).2.1, 0) ∧ (allL L).2.1 ≤ L.length
  | _, [], _ => by simp [allL_nil]
  | 0, _ :: _, h => by simp at h
  | n + 1, x :: s, h => by
    by_cases hr : (readL (x :: s)).2.2 = 0
    · obtain ⟨h8, h9, h10, h11, -⟩ := readL_ok _ hr
      have e := allL_ok (x :: s) (by simp) hr
      obtain ⟨R, hR⟩ : ∃ R, x :: s = R := ⟨_, rfl⟩
      rw [hR] at hr h8 h9 e ⊢
      have hRl : R.length ≤ n + 1 := by rw [← hR]; exact h
      obtain ⟨pl, hpl⟩ : ∃ pl, readL R = pl := ⟨_, rfl⟩
      rw [hpl] at hr h8 h9 e
      obtain ⟨i1, i2⟩ := allL_fix n (R.drop pl.2.1) (by rw [List.length_drop]; omega)
      rw [List.length_drop] at i2
      rw [e]
      simp only
      have hk : pl.2.1 + (allL (R.drop pl.2.1)).2.1 ≤ R.length := by omega
      refine ⟨?_, hk⟩
      obtain ⟨k, hk2⟩ : ∃ k, (allL (R.drop pl.2.1)).2.1 = k := ⟨_, rfl⟩
      rw [hk2] at i1 hk ⊢
      -- the first frame of the shorter bytes
      have hr2 : readL (R.take (pl.2.1 + k)) = pl := by
        obtain ⟨q, hq⟩ : ∃ q, pl.2.1 = q := ⟨_, rfl⟩
        rw [hq] at hk h8 h9 ⊢
        rw [← hpl]
        have h4 : ∀ j, j ≤ q + k → (R.take (q + k)).take j = R.take j := fun j hj => by rw [List.take_take, Nat.min_eq_left hj]
        have hlen : (R.take (q + k)).length = q + k := by rw [List.length_take]; omega
        have hn4 : numL (R.take (q + k)) = numL R := by rw [← numL_take, h4 4 (by omega), numL_take]
        have hd4 : numL ((R.take (q + k)).drop 4) = numL (R.drop 4) := by
          rw [← numL_take, ← numL_take (R.drop 4), List.drop_take, List.take_take, Nat.min_eq_left (by omega)]
        have hR0 : (readL R).2.2 = 0 := by rw [hpl]; exact hr
        have hlen2 : (readL R).2.1 = q := by rw [hpl]; exact hq
        unfold readL at hR0 hlen2 ⊢
        split at hR0
        · simp at hR0
        · split at hR0
          · simp at hR0
          · split at hR0
            · simp at hR0
            · split at hR0
              · simp at hR0
              · split at hR0
                · simp at hR0
                · next g1 g2 g3 g4 g5 =>
                  rw [if_neg g1, if_neg g2, if_neg g3, if_neg g4, if_neg g5] at hlen2
                  simp only at hlen2
                  have hd8 : ((R.take (q + k)).drop 8).take (numL R).toNat = (R.drop 8).take (numL R).toNat := by
                    rw [List.drop_take, List.take_take, Nat.min_eq_left (by omega)]
                  rw [hn4, hd4, h4 4 (by omega), hd8]
                  rw [if_neg (fun e => by rw [e] at hlen; simp at hlen; omega), if_neg (by omega), if_neg g3, if_neg (by omega), if_neg g5, if_neg g1, if_neg g2, if_neg g3, if_neg g4]
      have hne : R.take (pl.2.1 + k) ≠ [] := fun e => by
        have hlen : (R.take (pl.2.1 + k)).length = pl.2.1 + k := by rw [List.length_take]; omega
        rw [e] at hlen
        simp only [List.length_nil] at hlen
        omega
      rw [allL_ok _ hne (by rw [hr2]; exact hr), hr2]
      have hdr : (R.take (pl.2.1 + k)).drop pl.2.1 = (R.drop pl.2.1).take k := by
        rw [List.drop_take, Nat.add_sub_cancel_left]
      rw [hdr, i1]
    · rw [allL_bad (x :: s) (by simp) hr]
      simp [allL_nil]

end Go.Proofs.YtjppklgegpmfpaaGreatDoor
