/-
  Walks of the laws of layer 3.
-/
import Derived.Test.YtfcgmhkfehcdaaaWakes
namespace Go.Proofs.Ytfcgmhkfehcdaaa
open Go.RowKit

set_option maxHeartbeats 1000000 in
theorem counts_law (c a b : Int) (w : World) :
    Calls Try.prog 3 #[.int .i64 c, .int .i64 a, .int .i64 b] w fun e w' => e = .returned (.bool true) ∧ Below w.heap.size w w' := by
  obtain ⟨x, y, er, h⟩ := counts_some c a b
  have H1 := Lib.hid (fun w => count_any c a b x y er w h)
  have H2 := Lib.hid (fun w => countR_any c a b x y er w h)
  clear h
  go_enter Try.func3, Try.ntmps3
  go_wp2_with (first
    | (go_at_call 6; refine (wakes_any _).mono ?_; rintro e w1 ⟨rfl, hb1⟩)
    | (go_at_call 7; refine (H1.out _).mono ?_; rintro e w2 ⟨rfl, hb2⟩)
    | (go_at_call 8; refine (H2.out _).mono ?_; rintro e w3 ⟨rfl, rfl⟩))
  go_ret
  exact ⟨by simp, below_then hb1 hb2⟩

set_option maxHeartbeats 1000000 in
theorem dues_law (a s n : Int) (w : World) :
    Calls Try.prog 4 #[.int .i64 a, .int .i64 s, .int .i64 n] w fun e w' => e = .returned (.bool true) ∧ Below w.heap.size w w' := by
  obtain ⟨K, G, er, hK, hB⟩ := dues_both a s n
  have HB := Lib.hid hB
  have HK := Lib.hid hK
  clear hB hK
  go_enter Try.func4, Try.ntmps4
  go_wp2_with (first
    | (go_at_call 6; refine (wakes_any _).mono ?_; rintro e w1 ⟨rfl, hb1⟩)
    | (go_at_call 9; refine (HB.out.1 _).mono ?_; rintro e w2 ⟨A2, c2, rfl, r2, hb2⟩; have R2 := Lib.hid r2; clear r2)
    | (go_at_call 10; refine (HB.out.2 _).mono ?_; rintro e w3 ⟨A3, c3, rfl, r3, hb3⟩; have R3 := Lib.hid r3; have R23 := Lib.hid (R2.out.kept hb3); clear r3)
    | (go_at_call 11; refine (same_res K G A2 A3 c2 c3 _ HK.out R23.out.cells R3.out.cells).mono ?_; rintro e w4 ⟨rfl, hb4⟩))
  go_ret
  exact ⟨by simp, below_then (below_then (below_then hb1 hb2) hb3) hb4⟩

end Go.Proofs.Ytfcgmhkfehcdaaa
