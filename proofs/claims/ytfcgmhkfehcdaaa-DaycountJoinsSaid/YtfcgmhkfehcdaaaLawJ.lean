/-
  Walk of the law of joined stretches.
-/
import Derived.Test.YtfcgmhkfehcdaaaWakes
namespace Go.Proofs.Ytfcgmhkfehcdaaa
open Go.RowKit

theorem three_at (w w1 : World) (p q r : Int) (hb : Below (w.alloc (.cells #[.int .i64 p, .int .i64 q, .int .i64 r] 35)).heap.size (w.alloc (.cells #[.int .i64 p, .int .i64 q, .int .i64 r] 35)) w1) :
    w1.cell? ⟨w.heap.size, 0, none⟩ = some (.int .i64 p) ∧ w1.cell? ⟨w.heap.size, 1, none⟩ = some (.int .i64 q) ∧ w1.cell? ⟨w.heap.size, 2, none⟩ = some (.int .i64 r) := by
  refine ⟨?_, ?_, ?_⟩
  · rw [hb.cell (p := ⟨w.heap.size, 0, none⟩) (by simp)]; simp [go_sem]
  · rw [hb.cell (p := ⟨w.heap.size, 1, none⟩) (by simp)]; simp [go_sem]
  · rw [hb.cell (p := ⟨w.heap.size, 2, none⟩) (by simp)]; simp [go_sem]

set_option maxRecDepth 100000 in
set_option maxHeartbeats 2000000 in
theorem joins_law (c p q r : Int) (w : World) :
    Calls Try.prog 5 #[.int .i64 c, .agg #[.int .i64 p, .int .i64 q, .int .i64 r]] w fun e w' => e = .returned (.bool true) ∧ Below w.heap.size w w' := by
  obtain ⟨x1, y1, e1, h1⟩ := counts_some c p q
  obtain ⟨x2, y2, e2, h2⟩ := counts_some c q r
  obtain ⟨x3, y3, e3, h3⟩ := counts_some c p r
  have H1 := Lib.hid (fun w => count_any c p q x1 y1 e1 w h1)
  have H2 := Lib.hid (fun w => count_any c q r x2 y2 e2 w h2)
  have H3 := Lib.hid (fun w => count_any c p r x3 y3 e3 w h3)
  have J := counts_join c p q r x1 y1 e1 x2 y2 e2 x3 y3 e3 h1 h2 h3
  have HB := Lib.hid (below_new w (.cells #[.int .i64 p, .int .i64 q, .int .i64 r] 35))
  clear h1 h2 h3
  rcases J with ⟨a1, rfl⟩ | ⟨rfl, a2, rfl⟩ | ⟨rfl, rfl, rfl, rfl, rfl, a1, a2⟩
  · have a1' : (e1 != 0) = true := by simpa using a1
    clear a1
    go_enter Try.func5, Try.ntmps5
    go_wp2_with (first
      | (go_at_call 6; refine (wakes_any _).mono ?_; rintro e w1 ⟨rfl, hb1⟩; obtain ⟨k10, k11, k12⟩ := three_at w w1 p q r hb1; have B1 := Lib.hid hb1; clear hb1)
      | (go_at_call 7; (with_reducible refine (H1.out _).mono ?_); rintro e w2 ⟨rfl, hb2⟩; obtain ⟨k20, k21, k22⟩ := three_at w w2 p q r (below_then B1.out hb2); have B2 := Lib.hid (below_then B1.out hb2); clear hb2 k10 k11 k12)
      | (go_at_call 7; (with_reducible refine (H2.out _).mono ?_); rintro e w3 ⟨rfl, hb3⟩; obtain ⟨k30, k31, k32⟩ := three_at w w3 p q r (below_then B2.out hb3); have B3 := Lib.hid (below_then B2.out hb3); clear hb3 k20 k21 k22)
      | (go_at_call 7; (with_reducible refine (H3.out _).mono ?_); rintro e w4 ⟨rfl, hb4⟩; have B4 := Lib.hid (below_then B3.out hb4); clear hb4 k30 k31 k32))
    go_ret
    exact ⟨by simp, below_then HB.out B4.out⟩
  · have a2' : (e2 != 0) = true := by simpa using a2
    clear a2
    go_enter Try.func5, Try.ntmps5
    go_wp2_with (first
      | (go_at_call 6; refine (wakes_any _).mono ?_; rintro e w1 ⟨rfl, hb1⟩; obtain ⟨k10, k11, k12⟩ := three_at w w1 p q r hb1; have B1 := Lib.hid hb1; clear hb1)
      | (go_at_call 7; (with_reducible refine (H1.out _).mono ?_); rintro e w2 ⟨rfl, hb2⟩; obtain ⟨k20, k21, k22⟩ := three_at w w2 p q r (below_then B1.out hb2); have B2 := Lib.hid (below_then B1.out hb2); clear hb2 k10 k11 k12)
      | (go_at_call 7; (with_reducible refine (H2.out _).mono ?_); rintro e w3 ⟨rfl, hb3⟩; obtain ⟨k30, k31, k32⟩ := three_at w w3 p q r (below_then B2.out hb3); have B3 := Lib.hid (below_then B2.out hb3); clear hb3 k20 k21 k22)
      | (go_at_call 7; (with_reducible refine (H3.out _).mono ?_); rintro e w4 ⟨rfl, hb4⟩; have B4 := Lib.hid (below_then B3.out hb4); clear hb4 k30 k31 k32))
    go_ret
    exact ⟨by simp, below_then HB.out B4.out⟩
  · rcases a2 with rfl | ⟨a2, a3, a4, a5, a6⟩
    · go_enter Try.func5, Try.ntmps5
      go_wp2_with (first
        | (go_at_call 6; refine (wakes_any _).mono ?_; rintro e w1 ⟨rfl, hb1⟩; obtain ⟨k10, k11, k12⟩ := three_at w w1 p q r hb1; have B1 := Lib.hid hb1; clear hb1)
        | (go_at_call 7; (with_reducible refine (H1.out _).mono ?_); rintro e w2 ⟨rfl, hb2⟩; obtain ⟨k20, k21, k22⟩ := three_at w w2 p q r (below_then B1.out hb2); have B2 := Lib.hid (below_then B1.out hb2); clear hb2 k10 k11 k12)
        | (go_at_call 7; (with_reducible refine (H2.out _).mono ?_); rintro e w3 ⟨rfl, hb3⟩; obtain ⟨k30, k31, k32⟩ := three_at w w3 p q r (below_then B2.out hb3); have B3 := Lib.hid (below_then B2.out hb3); clear hb3 k20 k21 k22)
        | (go_at_call 7; (with_reducible refine (H3.out _).mono ?_); rintro e w4 ⟨rfl, hb4⟩; have B4 := Lib.hid (below_then B3.out hb4); clear hb4 k30 k31 k32))
      go_ret
      exact ⟨by simp, below_then HB.out B4.out⟩
    · have a2' : (c == 1) = false := by simpa using a2
      have a3' : Hid (x1 + x2 = x3) := Lib.hid a3
      obtain ⟨s, hs⟩ : ∃ s, x1 + x2 = s := ⟨_, rfl⟩
      obtain rfl : s = x3 := by rw [← hs]; exact a3
      clear a2 a3 a3'
      go_enter Try.func5, Try.ntmps5
      go_wp2_with (first
        | (go_at_call 6; refine (wakes_any _).mono ?_; rintro e w1 ⟨rfl, hb1⟩; obtain ⟨k10, k11, k12⟩ := three_at w w1 p q r hb1; have B1 := Lib.hid hb1; clear hb1)
        | (go_at_call 7; (with_reducible refine (H1.out _).mono ?_); rintro e w2 ⟨rfl, hb2⟩; obtain ⟨k20, k21, k22⟩ := three_at w w2 p q r (below_then B1.out hb2); have B2 := Lib.hid (below_then B1.out hb2); clear hb2 k10 k11 k12)
        | (go_at_call 7; (with_reducible refine (H2.out _).mono ?_); rintro e w3 ⟨rfl, hb3⟩; obtain ⟨k30, k31, k32⟩ := three_at w w3 p q r (below_then B2.out hb3); have B3 := Lib.hid (below_then B2.out hb3); clear hb3 k20 k21 k22)
        | (go_at_call 7; (with_reducible refine (H3.out _).mono ?_); rintro e w4 ⟨rfl, hb4⟩; have B4 := Lib.hid (below_then B3.out hb4); clear hb4 k30 k31 k32))
      go_ret
      exact ⟨by simp, below_then HB.out B4.out⟩

end Go.Proofs.Ytfcgmhkfehcdaaa
