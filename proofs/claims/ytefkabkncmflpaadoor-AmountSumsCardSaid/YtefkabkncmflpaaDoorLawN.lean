/-
  The law AmountSums, at every input.
-/
import Derived.Test.YtefkabkncmflpaaDoorLawM
namespace Go.Proofs.YtefkabkncmflpaaDoor
open Go.RowKit Go.Sort Go.Shelf

set_option maxRecDepth 100000 in
set_option maxHeartbeats 1000000 in
theorem sums_err (v : Int) (A : Option Addr) (n cw : Nat) (wt : Nat → Int) (er : Int) (he : er = 2 ∨ er = 3) (hB : Both v n wt 0 wt er) (w : World) (h : WIn w A n cw wt) :
    Calls Tryd.prog 7 #[.int .i64 v, .slice A n cw] w fun e w' => e = .returned (.bool true) ∧ Below w.heap.size w w' := by
  have HB := Lib.hid hB.1
  have HW := Lib.hid h
  have h0 : (er != 0) = true := by rcases he with e | e <;> subst e <;> rfl
  clear h hB he
  go_enter Tryd.func7, Tryd.ntmps7
  go_wp2_with (first
    | (go_at_call 11; refine (wakes_any _).mono ?_; rintro e w1 ⟨rfl, hb1⟩; have W1 := Lib.hid (HW.out.kept hb1))
    | (go_at_call 21; refine (own_any A n cw wt _ W1.out).mono ?_; rintro e w2 ⟨g2, c2, rfl, -, m2, k2, hb2⟩; have L2 : Hid (Lies w2 g2 n wt) := Lib.hid ⟨m2, k2⟩; clear m2 k2)
    | (go_at_call 20; refine (HB.out _ g2 c2 L2.out).mono ?_; rintro e w4 ⟨A4, c4, rfl, -, hb4⟩))
  go_ret
  exact ⟨by simp, below_then (below_then hb1 hb2) hb4⟩

theorem sums_law (v : Int) (A : Option Addr) (n cw : Nat) (wt : Nat → Int) (w : World) (hn2 : n ≤ 9223372036854775807) (h : WIn w A n cw wt) :
    Calls Tryd.prog 7 #[.int .i64 v, .slice A n cw] w fun e w' => e = .returned (.bool true) ∧ Below w.heap.size w w' := by
  by_cases hn : n = 0 ∨ 1024 < n
  · exact sums_err v A n cw wt 3 (.inr rfl) (both_long v n wt hn hn2) w h
  · rcases wt_first wt n with hok | ⟨j, h1, h2, h3⟩
    · by_cases hb : sumTo wt n = 0 ∨ v < -1000000000000000 ∨ 1000000000000000 < v
      · exact sums_err v A n cw wt 2 (.inl rfl) (both_total v n wt (by omega) (by omega) hok hb) w h
      · obtain ⟨ad, rfl, -, -⟩ := h.at_ (by omega)
        obtain ⟨m, hm⟩ : ∃ m, m + 1 = n := ⟨n - 1, by omega⟩
        have s0 := sum_bd hok n (Nat.le_refl _) (by omega)
        have S0 : 0 < sumTo wt n := by omega
        subst hm
        obtain ⟨p, -, pB, pS⟩ := sorted_exists (m := m) fun i => over (size v) (sumTo wt (m + 1)) wt i.val
        have z0 := size_nonneg v
        have q1 := parts_le (size v) (sumTo wt (m + 1)) wt (m + 1) z0 S0 (fun i hi => (hok i hi).1) (Int.le_refl _)
        have q2 := left_lt (size v) (sumTo wt (m + 1)) wt (m + 1) (by omega) S0 rfl
        obtain ⟨L, eL⟩ := Int.eq_ofNat_of_zero_le (a := size v - sumTo (part (size v) (sumTo wt (m + 1)) wt) (m + 1)) (by omega)
        exact sums_ok p v (sumTo wt (m + 1)) wt L (m + 1) cw ad rfl (by omega) pB pS hok rfl S0 (by omega) (by omega) eL.symm (by omega) w h
    · exact sums_err v A n cw wt 2 (.inl rfl) (both_weights v n j wt (by omega) (by omega) h1 h2 h3) w h

end Go.Proofs.YtefkabkncmflpaaDoor
