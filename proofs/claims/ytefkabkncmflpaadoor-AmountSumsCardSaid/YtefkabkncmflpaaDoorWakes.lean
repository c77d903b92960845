/-
  Walk: wakes.
-/
import Derived.Test.YtefkabkncmflpaaDoorWkW
import Derived.Test.YtefkabkncmflpaaDoorWkV
namespace Go.Proofs.YtefkabkncmflpaaDoor
open Go.RowKit Go.Sort Go.Shelf

theorem mulDiv_w (w : World) : Calls Tryd.prog 16 #[.int .i64 7, .int .i64 1, .int .i64 2] w fun e w' => e = .returned (.tuple #[.int .i64 4, .int .i64 0]) ∧ Below w.heap.size w w' :=
  (mulDiv_any 7 1 2 w (by omega) (by omega) (by omega) (by omega) (by omega) (by omega)).mono fun e w' h => ⟨by rw [h.1, show mulDiv 7 1 2 = (4, 0) by decide], h.2⟩
theorem interest_w (w : World) : Calls Tryd.prog 18 #[.int .i64 100000, .int .i64 50000000, .int .i64 30, .int .i64 360] w fun e w' => e = .returned (.tuple #[.int .i64 417, .int .i64 0]) ∧ Below w.heap.size w w' :=
  (interest_any 100000 50000000 30 360 w).mono fun e w' h => ⟨by rw [h.1, show interest 100000 50000000 30 360 = (417, 0) by decide], h.2⟩

theorem below_alloc {w w' : World} (h : Below w.heap.size w w') (o : Obj) : Below w.heap.size w (w'.alloc o) := h.alloc h.size o

theorem first_is (p : Array (Pl 2)) (r : Pl 2 → Int) (c : Int) (hr : ∀ i, r i = c) (hb : Blk p 0 3) (hs : Srt r p 0 3) : p[0]!.val = 0 := by
  obtain ⟨i, i0, i1, hi⟩ := hb.onto 0 (by omega) (by omega)
  by_cases e : i = 0
  · rw [e] at hi; exact hi
  · have := hs 0 i (by omega) (by omega) i1
    unfold tl at this
    rw [hr, hr, hi] at this
    omega

theorem split_w (g : Nat) (w : World) (hg : g < w.heap.size) (h0 : w.cell? ⟨g, 0, none⟩ = some (.int .i64 1)) (h1 : w.cell? ⟨g, 1, none⟩ = some (.int .i64 1)) (h2 : w.cell? ⟨g, 2, none⟩ = some (.int .i64 1)) :
    Calls Tryd.prog 20 #[.int .i64 100, .slice (some ⟨g, 0, none⟩) 3 3] w fun e w' => e = .returned (.tuple #[.slice (some ⟨w.heap.size, 0, none⟩) 3 3, .int .i64 0]) ∧ w.heap.size < w'.heap.size ∧ w'.cell? ⟨w.heap.size, 0, none⟩ = some (.int .i64 34) ∧ Below w.heap.size w w' := by
  refine (split_ok (greatest_under 2 (by omega)) 100 3 (fun _ => 1) g 3 3 rfl w (by omega) (by omega) (by omega) hg ?_ (fun i _ => by omega) (by decide) (by omega)).mono ?_
  · intro i hi
    match i, hi with
    | 0, _ => exact h0
    | 1, _ => exact h1
    | 2, _ => exact h2
    | n + 3, h => omega
  · rintro e w' ⟨p, L, rfl, hL, _, hrow, hps, hpb, hpr, hbl⟩
    have hL1 : L = 1 := by
      have : size 100 - sumTo (part (size 100) 3 fun _ => 1) 3 = 1 := by decide
      omega
    subst hL1
    have hf := first_is p _ 1 (fun i => by show size 100 * 1 % 3 = 1; decide) hpb hpr
    refine ⟨rfl, hrow.lt, ?_, hbl⟩
    rw [hrow.cell (by omega)]
    have ht : taken p 1 0 = true := (taken_iff p 1 0).2 ⟨0, by omega, hf⟩
    have : signOf 100 (got (size 100) 3 (fun _ => 1) p 1 0) = 34 := by
      unfold signOf got
      rw [ht]
      decide
    rw [this]

set_option maxRecDepth 100000 in
set_option maxHeartbeats 1000000 in
theorem wakes_any (w : World) : Calls Tryd.prog 11 #[] w fun e w' => e = .returned (.bool true) ∧ Below w.heap.size w w' := by
  go_enter Tryd.func11, Tryd.ntmps11
  go_wp2_with (first | (go_at_call 16; refine (mulDiv_w _).mono ?_; rintro e w1 ⟨rfl, hb1⟩) | (go_at_call 18; refine (interest_w _).mono ?_; rintro e w2 ⟨rfl, hb2⟩) | (go_at_call 20; refine (split_w w2.heap.size _ (by simp) (by simp [go_sem]) (by simp [go_sem]) (by simp [go_sem])).mono ?_; rintro e w3 ⟨rfl, hl3, hc3, hb3⟩) | (go_at_call 25; refine (read_five _).mono ?_; rintro e w4 ⟨rfl, hb4⟩; have hc4 := (hb4.cell (p := ⟨w2.heap.size + 1, 0, none⟩) (by simpa using hl3)).trans (by simpa using hc3)) | (go_at_call 27; refine (text_five _).mono ?_; rintro e w5 ⟨rfl, hb5⟩))
  go_ret
  refine ⟨rfl, ?_⟩
  repeat (first | exact Below.refl _ _ | refine below_then ?_ (by assumption) | refine below_alloc ?_ _)

end Go.Proofs.YtefkabkncmflpaaDoor
