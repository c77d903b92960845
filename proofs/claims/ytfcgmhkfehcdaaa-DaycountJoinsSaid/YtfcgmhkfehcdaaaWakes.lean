/-
  Walk: wakes.
-/
import Derived.Test.YtfcgmhkfehcdaaaCutW
import Derived.Test.YtfcgmhkfehcdaaaBoth
import Derived.Test.YtfcgmhkfehcdaaaWkG
import Derived.Test.YtfcgmhkfehcdaaaWkH
namespace Go.Proofs.Ytfcgmhkfehcdaaa
open Go.RowKit

theorem count_w (w : World) : Calls Try.prog 7 #[.int .i64 1, .int .i64 19753, .int .i64 19782] w fun e w' => e = .returned (.tuple #[.int .i64 29, .int .i64 360, .int .i64 0]) ∧ Below w.heap.size w w' :=
  count_any 1 19753 19782 29 360 0 w (.inr (.inr (.inl ⟨rfl, by decide, ⟨2024, 1, 31, 2024, 2, 29, by decide, by decide, by decide, by decide, by decide⟩, rfl, rfl⟩)))
theorem count4_w (w : World) : Calls Try.prog 7 #[.int .i64 4, .int .i64 1, .int .i64 2] w fun e w' => e = .returned (.tuple #[.int .i64 0, .int .i64 0, .int .i64 2]) ∧ Below w.heap.size w w' :=
  count_any 4 1 2 0 0 2 w (.inl ⟨by omega, rfl, rfl, rfl⟩)
theorem RowAt.is {w : World} {B K : Nat} {G H : Nat → Int} {A : Option Addr} (h : RowAt w B K G A) (e : ∀ i, i < K → G i = H i) : RowAt w B K H A := by
  rcases h with h | ⟨g, h1, h2, h3, h4⟩
  · exact .inl h
  · exact .inr ⟨g, h1, h2, h3, fun i hi => by rw [h4 i hi, e i hi]⟩
theorem due3 : ∀ i, i < 3 → (dueP 2024 1 31 1 i).2 = 0 ∧ (dueP 2024 1 31 1 i).1 = ofL [19782, 19813, 19843] i := by
  intro i hi
  have hi' : i = 0 ∨ i = 1 ∨ i = 2 := by omega
  rcases hi' with rfl | rfl | rfl <;> decide
theorem dues_w (w : World) : Calls Try.prog 9 #[.int .i64 19753, .int .i64 1, .int .i64 3] w (Res w 3 (ofL [19782, 19813, 19843]) 0) := by
  have h := dues_ok 2024 1 31 1 3 w (by decide) (by omega) (by omega) (by omega) fun i hi => (due3 i hi).1
  rw [show num 2024 1 31 = 19753 by decide] at h
  refine h.mono ?_
  rintro e w' ⟨A, c, rfl, h1, h2⟩
  exact ⟨A, c, rfl, h1.is fun i hi => (due3 i hi).2, h2⟩
theorem new5 (w : World) : ∀ i, i < 5 → (w.alloc (.cells #[.int .i64 7, .int .i64 5, .int .i64 6, .int .i64 7, .int .i64 12] 3)).cell? ⟨w.heap.size, i, none⟩ = some (.int .i64 (ofL [7, 5, 6, 7, 12] i)) := by
  intro i hi
  have hi' : i = 0 ∨ i = 1 ∨ i = 2 ∨ i = 3 ∨ i = 4 := by omega
  rcases hi' with rfl | rfl | rfl | rfl | rfl <;> simp [go_sem, ofL]
theorem new3 (w : World) : CellsAt (w.alloc (.cells #[.int .i64 19782, .int .i64 19813, .int .i64 19843] 3)) 3 (ofL [19782, 19813, 19843]) (some ⟨w.heap.size, 0, none⟩) := by
  refine .inr ⟨_, rfl, fun i hi => ?_⟩
  rw [add_head]
  have hi' : i = 0 ∨ i = 1 ∨ i = 2 := by omega
  rcases hi' with rfl | rfl | rfl <;> simp [go_sem, ofL]
theorem new4 (w : World) : CellsAt (w.alloc (.cells #[.int .i64 5, .int .i64 6, .int .i64 7, .int .i64 9] 3)) 4 (ofL [5, 6, 7, 9]) (some ⟨w.heap.size, 0, none⟩) := by
  refine .inr ⟨_, rfl, fun i hi => ?_⟩
  rw [add_head]
  have hi' : i = 0 ∨ i = 1 ∨ i = 2 ∨ i = 3 := by omega
  rcases hi' with rfl | rfl | rfl | rfl <;> simp [go_sem, ofL]
theorem below_new (w : World) (o : Obj) : Below w.heap.size w (w.alloc o) := (Below.refl _ _).alloc (Nat.le_refl _) _

set_option maxRecDepth 100000 in
set_option maxHeartbeats 2000000 in
theorem wakes_any (w : World) : Calls Try.prog 6 #[] w fun e w' => e = .returned (.bool true) ∧ Below w.heap.size w w' := by
  go_enter Try.func6, Try.ntmps6
  go_wp2_with (first
    | (go_at_call 7; (with_reducible refine (count_w _).mono ?_); rintro e w1 ⟨rfl, hb1⟩)
    | (go_at_call 9; (with_reducible refine (dues_w _).mono ?_); rintro e w2 ⟨A2, c2, rfl, r2, hb2⟩; have R2 := Lib.hid (r2.kept (below_new w2 (.cells #[.int .i64 7, .int .i64 5, .int .i64 6, .int .i64 7, .int .i64 12] 3))); have N5 := Lib.hid (new5 w2); have HB2 := Lib.hid ((below_then hb1 hb2).alloc (below_then hb1 hb2).size (.cells #[.int .i64 7, .int .i64 5, .int .i64 6, .int .i64 7, .int .i64 12] 3)); clear r2 hb1 hb2)
    | (go_at_call 12; refine (cut_w w2.heap.size _ (by simp) N5.out).mono ?_; rintro e w3 ⟨A3, c3, rfl, r3, hb3⟩; have R3 := Lib.hid r3; have R23 := Lib.hid (R2.out.kept hb3); have HB3 := Lib.hid (below_then HB2.out hb3); clear r3 hb3 N5)
    | (go_at_call 7; (with_reducible refine (count4_w _).mono ?_); rintro e w4 ⟨rfl, hb4⟩; have R24 := Lib.hid ((R23.out.kept hb4).kept (below_new w4 (.cells #[.int .i64 19782, .int .i64 19813, .int .i64 19843] 3))); have R34 := Lib.hid ((R3.out.kept hb4).kept (below_new w4 (.cells #[.int .i64 19782, .int .i64 19813, .int .i64 19843] 3))); have N3 := Lib.hid (new3 w4); have HB4 := Lib.hid (below_then (below_then HB3.out hb4) (below_new w4 (.cells #[.int .i64 19782, .int .i64 19813, .int .i64 19843] 3))); clear hb4)
    | (go_at_call 11; (with_reducible refine (same_res 3 (ofL [19782, 19813, 19843]) _ _ _ _ _ (by decide) R24.out.cells N3.out).mono ?_); rintro e w5 ⟨rfl, hb5⟩; have R35 := Lib.hid ((R34.out.kept hb5).kept (below_new w5 (.cells #[.int .i64 5, .int .i64 6, .int .i64 7, .int .i64 9] 3))); have N4 := Lib.hid (new4 w5); have HB5 := Lib.hid (below_then (below_then HB4.out hb5) (below_new w5 (.cells #[.int .i64 5, .int .i64 6, .int .i64 7, .int .i64 9] 3))); clear hb5)
    | (go_at_call 11; (with_reducible refine (same_res 4 (ofL [5, 6, 7, 9]) _ _ _ _ _ (by decide) R35.out.cells N4.out).mono ?_); rintro e w6 ⟨rfl, hb6⟩))
  go_ret
  exact ⟨by simp, below_then HB5.out hb6⟩

end Go.Proofs.Ytfcgmhkfehcdaaa
