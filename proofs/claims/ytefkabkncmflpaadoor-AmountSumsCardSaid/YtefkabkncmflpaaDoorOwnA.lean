/-
  Walks: a list laid anew; two lists compared.
-/
import Derived.Test.YtefkabkncmflpaaDoorSplA
import Derived.Maps.AppendAt
import Derived.Laws.AppendOwnNone
namespace Go.Proofs.YtefkabkncmflpaaDoor
open Go.RowKit Go.Sort Go.Shelf

/-- What a list of words that came in looks like. -/
def WIn (w : World) (A : Option Addr) (n cw : Nat) (wt : Nat → Int) : Prop :=
  (A = none ∧ n = 0 ∧ cw = 0) ∨ ∃ ad, A = some ad ∧ n * 8 ≤ 140737488351232 ∧ ∀ i, i < n → w.cell? (ad.add i) = some (.int .i64 (wt i))

/-- The new list. -/
def OwnDone (w : World) (n : Nat) (wt : Nat → Int) (e : Ending) (w' : World) : Prop :=
  ∃ g c, e = .returned (.slice (some ⟨g, 0, none⟩) n c) ∧ w.heap.size ≤ g ∧ g < w'.heap.size ∧ (∀ i, i < n → w'.cell? ⟨g, i, none⟩ = some (.int .i64 (wt i))) ∧ Below w.heap.size w w'

theorem add_head (g i : Nat) : (⟨g, 0, none⟩ : Addr).add i = ⟨g, i, none⟩ := by
  unfold Addr.add
  split
  · next h => rw [h]
  · simp
theorem word_list_get {n : Nat} {wt : Nat → Int} (i : Nat) (hi : i < n) : ((List.range n).map fun i => Value.int .i64 (wt i))[i]? = some (.int .i64 (wt i)) := by simp [hi]

def OwnRow (w : World) (n : Nat) (wt : Nat → Int) (e : Ending) (w' : World) : Prop :=
  ∃ g c, e = .returned (.slice (some ⟨g, 0, none⟩) n c) ∧ w'.ownsRow w.heap.size 2 1 (.slice (some ⟨g, 0, none⟩) n c) n ((List.range n).map fun i => Value.int .i64 (wt i)) ∧ Below w.heap.size w w'

theorem own_row (A : Option Addr) (n cw : Nat) (wt : Nat → Int) (w : World) (h : WIn w A n cw wt) :
    Calls Tryd.prog 21 #[.slice A n cw] w (OwnRow w n wt) := by
  obtain ⟨i0, hi0, hz0, hz1, hz2⟩ := info_parts info2
  have hown : (w.alloc (.cells #[] 2)).ownsRow w.heap.size 2 1 (.slice (some ⟨w.heap.size, 0, none⟩) 0 0) 0 [] :=
    ⟨by simp, .inr ⟨w.heap.size, 0, #[], rfl, Nat.le_refl _, heap_alloc_new w _, Nat.le_refl _, Nat.zero_le _, by simp, by simp⟩⟩
  have HB : Below w.heap.size w (w.alloc (.cells #[] 2)) := (Below.refl _ _).alloc (Nat.le_refl _) _
  rcases h with ⟨rfl, rfl, rfl⟩ | ⟨ad, rfl, hn, hc⟩
  · go_enter Tryd.func21, Tryd.ntmps21
    go_wp2_with (at_builtin; refine wpList_append_own_none rfl (.tmp 3) (.tmp 4) _ rfl w.heap.size 2 i0 1 Tryd.underlying36 hi0 _ 0 [] rfl hown rfl ?_)
    go_ret
    exact ⟨_, _, rfl, hown, HB⟩
  · have hc' : ∀ j u, ((List.range n).map fun i => Value.int .i64 (wt i))[j]? = some u → (w.alloc (.cells #[] 2)).cell? (ad.add j) = some u := fun j u hu => by
      have hj : j < n := by
        rcases Nat.lt_or_ge j n with h | h
        · exact h
        · simp [h] at hu
      rw [word_list_get j hj] at hu
      have h1 := hc j hj
      rw [World.cell?_alloc_lt w _ _ (by
        apply Classical.byContradiction
        intro hb
        rw [World.cell?, Array.getElem?_eq_none (by omega)] at h1
        cases h1), h1]
      exact hu
    have HN := Lib.hid hn
    clear hc hn
    go_enter Tryd.func21, Tryd.ntmps21
    go_wp2_with (at_builtin; refine wpList_append_own_at _ rfl (.tmp 3) (.tmp 4) _ rfl w.heap.size 2 i0 _ 1 8 Tryd.underlying36 hi0 hz0 hz1 hz2 rfl (by omega) (.slice (some ⟨w.heap.size, 0, none⟩) 0 0) 0 [] rfl hown ad n cw ((List.range n).map fun i => Value.int .i64 (wt i)) rfl (by simp) hc' (fun u hu => by obtain ⟨i, -, rfl⟩ := List.mem_map.1 hu; rfl) (by have := HN.out; unfold maxLen; omega) (by have := HN.out; omega) (by simp) ?_; intro v' w' q1 q2 q3 q4)
    obtain ⟨g, cap, cur, rfl, q5, -, -, -, -, -⟩ := q1.2.resolve_left (fun e => by have := (q3.1 e.1).1; cases this)
    have HQ := Lib.hid (And.intro q1 q2)
    clear q1 q2 q3 q4
    go_ret
    refine ⟨g, cap, by simp, by simpa using HQ.out.1, HB.grown HQ.out.2 (by simp) fun k hk => ?_⟩
    simp [Value.ownBlock] at hk
    omega

theorem own_cells {w : World} {base g n c : Nat} {wt : Nat → Int} (h : w.ownsRow base 2 1 (.slice (some ⟨g, 0, none⟩) n c) n ((List.range n).map fun i => Value.int .i64 (wt i))) : base ≤ g ∧ g < w.heap.size ∧ ∀ i, i < n → w.cell? ⟨g, i, none⟩ = some (.int .i64 (wt i)) := by
  have q6 := h.cells (g := g) rfl
  obtain ⟨g', cap, cur, e, q5, q7, -, -, -, -⟩ := h.2.resolve_left (fun e => by cases e.1)
  injection e with e
  injection e with e
  injection e with e
  subst e
  refine ⟨q5, (Array.getElem?_eq_some_iff.1 q7).1, fun i hi => ?_⟩
  have := q6 i (.int .i64 (wt i)) (by simp [hi])
  rw [add_head] at this
  exact this
theorem own_any (A : Option Addr) (n cw : Nat) (wt : Nat → Int) (w : World) (h : WIn w A n cw wt) :
    Calls Tryd.prog 21 #[.slice A n cw] w (OwnDone w n wt) := by
  refine (own_row A n cw wt w h).mono ?_
  rintro e w' ⟨g, c, rfl, h1, hb⟩
  obtain ⟨h2, h3, h4⟩ := own_cells h1
  exact ⟨g, c, rfl, h2, h3, h4, hb⟩

theorem same_any (g h : Addr) (n c d : Nat) (f k : Nat → Int) (w : World) (hn : n ≤ 9223372036854775807) (hf : ∀ i, i < n → w.cell? (g.add i) = some (.int .i64 (f i))) (hk : ∀ i, i < n → w.cell? (h.add i) = some (.int .i64 (k i))) (he : ∀ i, i < n → f i = k i) :
    Calls Tryd.prog 23 #[.slice (some g) n c, .slice (some h) n d] w fun e w' => e = .returned (.bool true) ∧ Below w.heap.size w w' := by
  have HF := Lib.hid hf
  have HK := Lib.hid hk
  have HE := Lib.hid he
  clear hf hk he
  go_enter Tryd.func23, Tryd.ntmps23
  go_wp2_with fail
  go_loopw [13] (fun t13 wr => ∃ i q : Nat, i ≤ n ∧ t13 = .int .i64 i ∧ wr = w.drewN q) (fun t13 _ => n - (intOf t13).toNat)
  case atStart => exact ⟨0, 0, by omega, rfl, rfl⟩
  case round =>
    obtain ⟨i, q, hi, rfl, rfl⟩ := hrel
    by_cases hlt : i < n
    · have c1 := HF.out i hlt
      have c2 := HK.out i hlt
      have hij : (i : Int) < n := by omega
      rw [HE.out i hlt] at c1
      generalize k i = x at c1 c2
      go_wp2_with fail
      go_quiet (fail)
      go_wp2_with fail
      go_roundw
      case rel => exact ⟨i + 1, q + nq, by omega, by go_num, rfl⟩
      case measure => simp [intOf]; omega
    · obtain rfl : i = n := by omega
      go_wp2_with fail
      go_ret
      exact ⟨rfl, drewN_below _ _ _⟩

/-- Two empty lists, nil or not. -/
theorem same_none (A B : Option Addr) (c d : Nat) (w : World) :
    Calls Tryd.prog 23 #[.slice A 0 c, .slice B 0 d] w fun e w' => e = .returned (.bool true) ∧ Below w.heap.size w w' := by
  go_enter Tryd.func23, Tryd.ntmps23
  go_wp2_with fail
  go_loop [13] (fun t13 => t13 = .int .i64 0) (fun _ => 0)
  case atStart => rfl
  case round =>
    subst hrel
    go_wp2_with fail
    go_ret
    exact ⟨rfl, Below.refl _ _⟩

end Go.Proofs.YtefkabkncmflpaaDoor
