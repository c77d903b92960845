/-
  Walks: the days that come back, by the document.
-/
import Derived.Test.YtfcgmhkfehcdaaaWkI
import Derived.Laws.AppendOwn
namespace Go.Proofs.Ytfcgmhkfehcdaaa
open Go.RowKit

/-- The numbers of a list, as values. -/
def valsOf (n : Nat) (G : Nat → Int) : List Value := (List.range n).map fun i => Value.int .i64 (G i)
theorem valsOf_len (n : Nat) (G : Nat → Int) : (valsOf n G).length = n := by simp [valsOf]
theorem valsOf_get {n : Nat} {G : Nat → Int} (i : Nat) (hi : i < n) : (valsOf n G)[i]? = some (.int .i64 (G i)) := by simp [valsOf, hi]
theorem valsOf_snoc (n : Nat) (G : Nat → Int) : valsOf n G ++ [.int .i64 (G n)] = valsOf (n + 1) G := by simp [valsOf, List.range_succ]
/-- What the call has made so far: a list that it owns. -/
def Mine (w : World) (B : Nat) (v : Value) (n : Nat) (G : Nat → Int) : Prop := w.ownsRow B 3 1 v n (valsOf n G)
theorem Mine.alloc {w : World} {B n : Nat} {v : Value} {G : Nat → Int} (h : Mine w B v n G) (o : Obj) : (w.alloc o).ownsRow B 3 1 v n (valsOf n G) := World.ownsRow.alloc h o
theorem new_cell (w : World) (x : Int) (t : TypeId) : ∀ j u, ([.int .i64 x] : List Value)[j]? = some u → (w.alloc (.cells #[.int .i64 x] t)).cell? ((⟨w.heap.size, 0, none⟩ : Addr).add j) = some u := by
  intro j u h
  match j, h with
  | 0, h =>
    simp at h
    subst h
    rw [add_head]
    simp [go_sem]
theorem Mine.grow {w w1 w' : World} {B k : Nat} {v v' : Value} {x : Int} {o : Obj} {G H : Nat → Int} (h : Mine w1 B v k G) (hb : Below B w w1) (hB : B ≤ w1.heap.size) (q1 : w'.ownsRow B 3 1 v' (k + 1) (valsOf k G ++ [.int .i64 x])) (q2 : (w1.alloc o).grownBy w' v.ownBlock)
    (e : valsOf k G ++ [.int .i64 x] = valsOf (k + 1) H) : Mine w' B v' (k + 1) H ∧ Below B w w' :=
  ⟨by unfold Mine; rw [← e]; exact q1, (hb.alloc hB o).grown q2 (by rw [World.size_alloc]; omega) fun j hj => (h.lt j hj).1⟩
theorem Mine.row {w : World} {B n : Nat} {v : Value} {G : Nat → Int} (h : Mine w B v n G) : ∃ A c, v = .slice A n c ∧ RowAt w B n G A := by
  rcases h.2 with ⟨rfl, rfl⟩ | ⟨g, cap, cur, rfl, hb, hg, hn, _, _, _⟩
  · exact ⟨none, 0, rfl, .inl rfl⟩
  · refine ⟨_, _, rfl, .inr ⟨g, rfl, hb, (Array.getElem?_eq_some_iff.1 hg).1, fun i hi => ?_⟩⟩
    have := h.cells (g := g) rfl i (.int .i64 (G i)) (valsOf_get i hi)
    rw [add_head] at this
    exact this

set_option maxHeartbeats 400000 in
theorem duesR_range (a s n : Int) (w : World) (h : ¬ Many s n) :
    Calls Try.prog 10 #[.int .i64 a, .int .i64 s, .int .i64 n] w fun e w' => e = .returned (.tuple #[.slice none 0 0, .int .i64 2]) ∧ w = w' := by
  by_cases h0 : s < 1
  · clear h
    go_enter Try.func10, Try.ntmps10
    go_wp2
    go_ret2
    exact ⟨rfl, rfl⟩
  · have h0' : decide (s < 1) = false := by simpa using h0
    by_cases h1 : 120 < s
    · clear h
      go_enter Try.func10, Try.ntmps10
      go_wp2
      go_ret2
      exact ⟨rfl, rfl⟩
    · have h1' : decide (120 < s) = false := by simpa using h1
      by_cases h2 : n < 0
      · clear h
        go_enter Try.func10, Try.ntmps10
        go_wp2
        go_ret2
        exact ⟨rfl, rfl⟩
      · have h2' : decide (n < 0) = false := by simpa using h2
        have h3 : 480 < n := by unfold Many at h; omega
        clear h
        go_enter Try.func10, Try.ntmps10
        go_wp2
        go_ret2
        exact ⟨rfl, rfl⟩

set_option maxHeartbeats 400000 in
theorem duesR_date (a s n : Int) (w : World) (h : Many s n) (g : ¬ (-719162 ≤ a ∧ a ≤ 2932896)) :
    Calls Try.prog 10 #[.int .i64 a, .int .i64 s, .int .i64 n] w fun e w' => e = .returned (.tuple #[.slice none 0 0, .int .i64 6]) ∧ w = w' := by
  obtain ⟨h0, h1, h2, h3⟩ := h
  have h0' : decide (s < 1) = false := by simpa using h0
  have h1' : decide (120 < s) = false := by simpa using h1
  have h2' : decide (n < 0) = false := by simpa using h2
  have h3' : decide (480 < n) = false := by simpa using h3
  have S := Lib.hid (fun w => good_any a w)
  rw [decide_eq_false g] at S
  clear g
  go_enter Try.func10, Try.ntmps10
  go_wp2_with (go_at_call 15; refine (S.out _).mono ?_; rintro e w2 ⟨rfl, rfl⟩)
  go_ret2
  exact ⟨rfl, rfl⟩

set_option maxRecDepth 100000 in
set_option maxHeartbeats 1000000 in
theorem duesR_ok (y m d s : Int) (n : Nat) (w : World) (v : Valid y m d) (s0 : 1 ≤ s) (s1 : s ≤ 120) (n1 : n ≤ 480) (hall : ∀ i, i < n → (dueP y m d s i).2 = 0) :
    Calls Try.prog 10 #[.int .i64 (num y m d), .int .i64 s, .int .i64 n] w (Res w n (fun i => (dueP y m d s i).1) 0) := by
  obtain ⟨i0, hi, hz0, hz1, hz2⟩ := info_parts info3
  have AD := Lib.hid (fun k w h0 h1 => addR_yes y m d k w v h0 h1)
  have S := Lib.hid (fun w => good_any (num y m d) w)
  rw [decide_eq_true (num_in y m d v)] at S
  generalize num y m d = a at AD S ⊢
  have HA := Lib.hid hall
  have h0' : decide (s < 1) = false := by simpa using s0
  have h1' : decide (120 < s) = false := by simpa using s1
  have h2' : decide ((n : Int) < 0) = false := by simp
  have h3' : decide (480 < (n : Int)) = false := by simp; omega
  clear hall
  go_enter Try.func10, Try.ntmps10
  go_wp2_with (first | (go_at_call 15; refine (S.out _).mono ?_; rintro e w2 ⟨rfl, rfl⟩))
  go_loopw [8, 9] (fun t8 t9 wr => ∃ k : Nat, k ≤ n ∧ t9 = .int .i64 ((k : Int) + 1) ∧ Hid (Mine wr w.heap.size t8 k fun i => (dueP y m d s i).1) ∧ Below w.heap.size w wr) (fun _ t9 _ => n + 1 - (intOf t9).toNat)
  case atStart => exact ⟨0, by omega, rfl, Lib.hid (World.ownsRow_nil _ _ _ _), Below.refl _ _⟩
  case round =>
    obtain ⟨k, hk, rfl, hown, hbl⟩ := hrel
    by_cases hlt : k < n
    · obtain ⟨p0, p1⟩ := step_bd s k s0 s1 (by omega)
      have DP := HA.out k hlt
      have DE : Hid (dueP y m d s k = addP y m d (((k : Int) + 1) * s)) := Lib.hid rfl
      obtain ⟨p, hp⟩ : ∃ p, ((k : Int) + 1) * s = p := ⟨_, rfl⟩
      rw [hp] at p0 p1 DE
      have A1 := Lib.hid (fun w => AD.out p w (by omega) (by omega))
      rw [← DE.out, DP] at A1
      have VS : Hid (valsOf k (fun i => (dueP y m d s i).1) ++ [.int .i64 (dueP y m d s k).1] = valsOf (k + 1) fun i => (dueP y m d s i).1) := Lib.hid (valsOf_snoc k _)
      obtain ⟨x, hx⟩ : ∃ x, (dueP y m d s k).1 = x := ⟨_, rfl⟩
      rw [hx] at A1 VS
      have hki : (k : Int) + 1 ≤ n := by omega
      have hk9 : (k : Int) < 480 := by omega
      have BS := Lib.hid hbl.size
      have NC := Lib.hid (new_cell wr x 3)
      clear DP DE hx
      go_wp2_with (first | (go_at_call 18; refine (A1.out _).mono ?_; rintro e w3 ⟨rfl, rfl⟩) | (at_builtin; refine wpList_append_own _ rfl (.tmp 44) (.tmp 46) 29 rfl w.heap.size 3 i0 (.int .i64 0) 1 8 Try.underlying29 hi hz0 hz1 hz2 rfl (by decide) _ k _ rfl (hown.out.alloc _) ⟨wr.heap.size, 0, none⟩ 1 1 [.int .i64 x] rfl rfl NC.out (by simp [Value.oneCell']) (by unfold maxLen; omega) (by omega) (by rw [World.size_alloc]; have := BS.out; omega) ?_; intro v' w4 q1 q2 q3; obtain ⟨m1, m2⟩ := hown.out.grow hbl BS.out q1 q2 VS.out; have M1 := Lib.hid m1; clear q1 q2 q3 m1))
      go_roundw
      case rel => exact ⟨k + 1, by omega, by go_num, M1, m2⟩
      case measure => simp [intOf]; omega
    · obtain rfl : k = n := by omega
      obtain ⟨A, c, rfl, hr⟩ := hown.out.row
      have HR := Lib.hid hr
      clear hr hown
      go_wp2
      go_ret2
      exact ⟨A, c, rfl, HR.out, hbl⟩

set_option maxRecDepth 100000 in
set_option maxHeartbeats 1000000 in
theorem duesR_stop (y m d s : Int) (n j0 : Nat) (w : World) (v : Valid y m d) (s0 : 1 ≤ s) (s1 : s ≤ 120) (n1 : n ≤ 480) (hj : j0 < n) (hstop : (dueP y m d s j0).2 = 6) (hall : ∀ i, i < j0 → (dueP y m d s i).2 = 0) :
    Calls Try.prog 10 #[.int .i64 (num y m d), .int .i64 s, .int .i64 n] w fun e w' => e = .returned (.tuple #[.slice none 0 0, .int .i64 6]) ∧ Below w.heap.size w w' := by
  obtain ⟨i0, hi, hz0, hz1, hz2⟩ := info_parts info3
  have AD := Lib.hid (fun k w h0 h1 => addR_yes y m d k w v h0 h1)
  have S := Lib.hid (fun w => good_any (num y m d) w)
  rw [decide_eq_true (num_in y m d v)] at S
  generalize num y m d = a at AD S ⊢
  have HA := Lib.hid hall
  have HS := Lib.hid hstop
  have h0' : decide (s < 1) = false := by simpa using s0
  have h1' : decide (120 < s) = false := by simpa using s1
  have h2' : decide ((n : Int) < 0) = false := by simp
  have h3' : decide (480 < (n : Int)) = false := by simp; omega
  clear hall hstop
  go_enter Try.func10, Try.ntmps10
  go_wp2_with (first | (go_at_call 15; refine (S.out _).mono ?_; rintro e w2 ⟨rfl, rfl⟩))
  go_loopw [8, 9] (fun t8 t9 wr => ∃ k : Nat, k ≤ j0 ∧ t9 = .int .i64 ((k : Int) + 1) ∧ Hid (Mine wr w.heap.size t8 k fun i => (dueP y m d s i).1) ∧ Below w.heap.size w wr) (fun _ t9 _ => n + 1 - (intOf t9).toNat)
  case atStart => exact ⟨0, by omega, rfl, Lib.hid (World.ownsRow_nil _ _ _ _), Below.refl _ _⟩
  case round =>
    obtain ⟨k, hk, rfl, hown, hbl⟩ := hrel
    by_cases hlt : k < j0
    · obtain ⟨p0, p1⟩ := step_bd s k s0 s1 (by omega)
      have DP := HA.out k hlt
      have DE : Hid (dueP y m d s k = addP y m d (((k : Int) + 1) * s)) := Lib.hid rfl
      obtain ⟨p, hp⟩ : ∃ p, ((k : Int) + 1) * s = p := ⟨_, rfl⟩
      rw [hp] at p0 p1 DE
      have A1 := Lib.hid (fun w => AD.out p w (by omega) (by omega))
      rw [← DE.out, DP] at A1
      have VS : Hid (valsOf k (fun i => (dueP y m d s i).1) ++ [.int .i64 (dueP y m d s k).1] = valsOf (k + 1) fun i => (dueP y m d s i).1) := Lib.hid (valsOf_snoc k _)
      obtain ⟨x, hx⟩ : ∃ x, (dueP y m d s k).1 = x := ⟨_, rfl⟩
      rw [hx] at A1 VS
      have hki : (k : Int) + 1 ≤ n := by omega
      have hk9 : (k : Int) < 480 := by omega
      have BS := Lib.hid hbl.size
      have NC := Lib.hid (new_cell wr x 3)
      clear DP DE hx
      go_wp2_with (first | (go_at_call 18; refine (A1.out _).mono ?_; rintro e w3 ⟨rfl, rfl⟩) | (at_builtin; refine wpList_append_own _ rfl (.tmp 44) (.tmp 46) 29 rfl w.heap.size 3 i0 (.int .i64 0) 1 8 Try.underlying29 hi hz0 hz1 hz2 rfl (by decide) _ k _ rfl (hown.out.alloc _) ⟨wr.heap.size, 0, none⟩ 1 1 [.int .i64 x] rfl rfl NC.out (by simp [Value.oneCell']) (by unfold maxLen; omega) (by omega) (by rw [World.size_alloc]; have := BS.out; omega) ?_; intro v' w4 q1 q2 q3; obtain ⟨m1, m2⟩ := hown.out.grow hbl BS.out q1 q2 VS.out; have M1 := Lib.hid m1; clear q1 q2 q3 m1))
      go_roundw
      case rel => exact ⟨k + 1, by omega, by go_num, M1, m2⟩
      case measure => simp [intOf]; omega
    · obtain rfl : k = j0 := by omega
      obtain ⟨p0, p1⟩ := step_bd s k s0 s1 (by omega)
      have DP := HS.out
      have DE : Hid (dueP y m d s k = addP y m d (((k : Int) + 1) * s)) := Lib.hid rfl
      obtain ⟨p, hp⟩ : ∃ p, ((k : Int) + 1) * s = p := ⟨_, rfl⟩
      rw [hp] at p0 p1 DE
      have A1 := Lib.hid (fun w => AD.out p w (by omega) (by omega))
      rw [← DE.out, DP] at A1
      generalize (dueP y m d s k).1 = x at A1
      have hki : (k : Int) + 1 ≤ n := by omega
      have hk9 : (k : Int) < 480 := by omega
      clear DP DE hown
      go_wp2_with (go_at_call 18; refine (A1.out _).mono ?_; rintro e w3 ⟨rfl, rfl⟩)
      go_ret2
      exact ⟨rfl, hbl⟩

end Go.Proofs.Ytfcgmhkfehcdaaa
