/-
  Walks: two products compared.
-/
import Derived.Test.YtefkabkncmflpaaDoorLawS
namespace Go.Proofs.YtefkabkncmflpaaDoor
open Go.RowKit Go.Sort Go.Shelf

theorem times_sz (x y : Int) (x0 : -2000000000000000 ≤ x) (x1 : x ≤ 2000000000000000) (y0 : -2000000000000000 ≤ y) (y1 : y ≤ 2000000000000000) :
    ∃ f : Nat → Int, InR f ∧ val f 20 = size x * size y ∧ ∀ w, Calls Tryd.prog 34 #[.agg (nat20 (ofD (size x))), .agg (nat20 (ofD (size y)))] w fun e w' => e = .returned (.agg (nat20 f)) ∧ Below w.heap.size w w' := by
  have a0 := size_nonneg x
  have a1 : size x ≤ 2000000000000000 := by unfold size; omega
  have b0 := size_nonneg y
  have b1 : size y ≤ 2000000000000000 := by unfold size; omega
  have e1 : val (ofD (size x)) 20 = size x := ofD_val _ a0 (by omega)
  have e2 : val (ofD (size y)) 20 = size y := ofD_val _ b0 (by omega)
  have c1 : (2000000000000000 : Int) * 2000000000000000 < 65536 ^ 20 := by decide
  have c2 : size x * size y ≤ 2000000000000000 * 2000000000000000 := Int.mul_le_mul a1 b1 b0 (by omega)
  refine ⟨tf (ofD (size x)) (ofD (size y)) 20, tf_in _ _ _, ?_, fun w => times20_any _ _ w (ofD_in _) (ofD_in _)⟩
  rw [times_in _ _ (ofD_in _) (ofD_in _) (by rw [e1, e2]; omega), e1, e2]

set_option maxRecDepth 100000 in
set_option maxHeartbeats 400000 in
theorem below_yes (a b c d : Int) (w : World) (a0 : -2000000000000000 ≤ a) (a1 : a ≤ 2000000000000000) (b0 : 0 < b) (b1 : b ≤ 2000000000000000) (c0 : -2000000000000000 ≤ c) (c1 : c ≤ 2000000000000000) (d0 : 0 ≤ d) (d1 : d ≤ 2000000000000000) (h : a * b < c * d) :
    Calls Tryd.prog 24 #[.int .i64 a, .int .i64 b, .int .i64 c, .int .i64 d] w fun e w' => e = .returned (.bool true) ∧ Below w.heap.size w w' := by
  obtain ⟨fx, x1, x2, x3⟩ := times_sz a b a0 a1 (by omega) b1
  obtain ⟨fy, y1, y2, y3⟩ := times_sz c d c0 c1 (by omega) d1
  have TX := Lib.hid x3
  have TY := Lib.hid y3
  have sb : size b = b := by unfold size; omega
  have sd : size d = d := by unfold size; omega
  rw [sb] at x2
  rw [sd] at y2
  have CV : Hid ((a < 0 → c < 0 → 0 < d → ∀ w, Calls Tryd.prog 41 #[.agg (nat20 fx), .agg (nat20 fy)] w fun e w' => e = .returned (.int .i64 1) ∧ Below w.heap.size w w') ∧
      (0 ≤ a → 0 ≤ c ∧ ∀ w, Calls Tryd.prog 41 #[.agg (nat20 fx), .agg (nat20 fy)] w fun e w' => e = .returned (.int .i64 (-1)) ∧ Below w.heap.size w w')) := by
    refine Lib.hid ⟨fun ha hc hd w => ?_, fun ha => ?_⟩
    · refine (cmp_any fx fy w x1 y1).mono fun e w' h' => ⟨?_, h'.2⟩
      rw [h'.1]
      have : size a = -a := by unfold size; omega
      have : size c = -c := by unfold size; omega
      have hlt : val fy 20 < val fx 20 := by
        rw [x2, y2, ‹size a = -a›, ‹size c = -c›, Int.neg_mul, Int.neg_mul]; omega
      unfold cmpV
      rw [if_neg (by omega), if_pos hlt]
    · have hab : 0 ≤ a * b := Int.mul_nonneg ha (by omega)
      have hc : 0 ≤ c := by
        apply Classical.byContradiction
        intro hc
        have := Int.mul_nonneg (a := -c) (b := d) (by omega) d0
        rw [Int.neg_mul] at this
        omega
      refine ⟨hc, fun w => (cmp_any fx fy w x1 y1).mono fun e w' h' => ⟨?_, h'.2⟩⟩
      rw [h'.1]
      have : size a = a := by unfold size; omega
      have : size c = c := by unfold size; omega
      have hlt : val fx 20 < val fy 20 := by rw [x2, y2, ‹size a = a›, ‹size c = c›]; exact h
      unfold cmpV
      rw [if_pos hlt]
  clear x1 x2 x3 y1 y2 y3 sb sd h
  go_enter Tryd.func24, Tryd.ntmps24
  go_upto_region 2 with (first
    | (go_at_call 35; refine (refSize_any _ _ (by omega) (by omega)).mono ?_; rintro e w1 ⟨rfl, hb1⟩)
    | (go_at_call 34; (with_reducible refine (TX.out _).mono ?_); rintro e w3 ⟨rfl, hb3⟩)
    | (go_at_call 34; (with_reducible refine (TY.out _).mono ?_); rintro e w6 ⟨rfl, hb6⟩; have z1 := row_of _ _ _ ((row_new w6 fun _ => 0).alloc (.cells (nat20 fun _ => 0) 58)); have z2 := row_of _ _ _ (row_setRow_other (g := w6.heap.size) (nat20 fx) (row_new2 w6) (by omega)); rw [← zeros20] at z1 z2)
    | (with_reducible refine wpList_store_row rfl 58 _ _ rfl w6.heap.size _ rfl rfl 58 _ z1 (by kernel_rfl) (by kernel_rfl) (by kernel_rfl) ?_)
    | (with_reducible refine wpList_store_row rfl 58 _ _ rfl (w6.heap.size + 1) _ rfl rfl 58 _ z2 (by kernel_rfl) (by kernel_rfl) (by kernel_rfl) ?_))
  rw [zeros20] at z1 z2 ⊢
  simp only [Act.put]
  have X0 := Lib.hid (row_setRow_other (nat20 fy) (row_setRow fx z1) (by omega : w6.heap.size ≠ w6.heap.size + 1))
  have Y0 := Lib.hid (row_setRow fy z2)
  have B6 : Below w.heap.size w w6 := by repeat (first | exact Below.refl _ _ | refine below_then ?_ (by assumption))
  have BW := Lib.hid (below_setRow (below_setRow ((B6.alloc B6.size (.cells (nat20 fun _ => 0) 58)).alloc (by simp; have := B6.size; omega) (.cells (nat20 fun _ => 0) 58)) (g := w6.heap.size) B6.size (nat20 fx)) (g := w6.heap.size + 1) (by have := B6.size; omega) (nat20 fy))
  clear z1 z2 B6 hb6
  generalize (((w6.alloc (.cells (nat20 fun _ => 0) 58)).alloc (.cells (nat20 fun _ => 0) 58)).setRow w6.heap.size (nat20 fx)).setRow (w6.heap.size + 1) (nat20 fy) = w7 at X0 Y0 BW ⊢
  generalize w6.heap.size + 1 = g2 at X0 Y0 BW ⊢
  generalize w6.heap.size = g1 at X0 Y0 BW ⊢
  have gx := row_of _ _ _ X0.out
  have gy := row_of _ _ _ Y0.out
  by_cases ha : a < 0
  · by_cases hc : 0 ≤ c
    · clear gx gy
      go_wp2_with fail
      go_ret
      exact ⟨by simp, BW.out⟩
    · by_cases hd : d = 0
      · subst hd
        have hc' : c < 0 := by omega
        clear gx gy hc
        go_wp2_with fail
        go_ret
        exact ⟨by simp, BW.out⟩
      · have CC := Lib.hid (CV.out.1 ha (by omega) (by omega))
        have hd' : (d == 0) = false := by simpa using hd
        have hc' : decide (0 ≤ c) = false := by simpa using hc
        clear hd hc
        go_wp2_with (first
          | (with_reducible refine wpList_load_row_if (by with_unfolding_all rfl) 58 _ rfl g1 rfl 58 _ (0, 0) _ gx Tryd.underlying58 rfl (by kernel_rfl) ?_)
          | (with_reducible refine wpList_load_row_if (by with_unfolding_all rfl) 58 _ rfl g2 rfl 58 _ (0, 0) _ gy Tryd.underlying58 rfl (by kernel_rfl) ?_)
          | (go_at_call 41; refine (CC.out _).mono ?_; rintro e w8 ⟨rfl, hb8⟩))
        go_ret
        exact ⟨by simp, below_then BW.out hb8⟩
  · obtain ⟨hc, hv⟩ := CV.out.2 (by omega)
    have CC := Lib.hid hv
    have ha' : 0 ≤ a := by omega
    clear hv ha
    go_wp2_with (first
      | (with_reducible refine wpList_load_row_if (by with_unfolding_all rfl) 58 _ rfl g1 rfl 58 _ (0, 0) _ gx Tryd.underlying58 rfl (by kernel_rfl) ?_)
      | (with_reducible refine wpList_load_row_if (by with_unfolding_all rfl) 58 _ rfl g2 rfl 58 _ (0, 0) _ gy Tryd.underlying58 rfl (by kernel_rfl) ?_)
      | (go_at_call 41; refine (CC.out _).mono ?_; rintro e w8 ⟨rfl, hb8⟩))
    go_ret
    exact ⟨by simp, below_then BW.out hb8⟩

end Go.Proofs.YtefkabkncmflpaaDoor
