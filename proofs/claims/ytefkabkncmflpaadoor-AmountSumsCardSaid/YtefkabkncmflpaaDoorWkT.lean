/-
  Walks over twenty digits: Times.
-/
import Derived.Test.YtefkabkncmflpaaDoorWkM
namespace Go.Proofs.YtefkabkncmflpaaDoor
open Go.RowKit

/-- The digits in the middle of a row's product. -/
def mid (f b : Nat → Int) (x : Int) (i k j : Nat) : Int := if i ≤ j ∧ j < i + k then td f b x i (j - i) else f j
theorem mid_zero (f b : Nat → Int) (x : Int) (i j : Nat) : mid f b x i 0 j = f j := by unfold mid; rw [if_neg (by omega)]
theorem mid_step (f b : Nat → Int) (x : Int) (i k j : Nat) : mid f b x i (k + 1) j = if j = i + k then td f b x i k else mid f b x i k j := by
  unfold mid
  by_cases h : j = i + k
  · rw [if_pos (by omega), if_pos h, h, Nat.add_sub_cancel_left]
  · rw [if_neg h]
    by_cases h2 : i ≤ j ∧ j < i + k
    · rw [if_pos (by omega), if_pos h2]
    · rw [if_neg (by omega), if_neg h2]
theorem mid_end (a b : Nat → Int) (i k j : Nat) (h : i + k = 20) (hj : j < 20) : mid (tf a b i) b (a i) i k j = tf a b (i + 1) j := by
  unfold mid
  by_cases h2 : j < i
  · rw [if_neg (by omega)]; simp [tf, h2]
  · rw [if_pos (by omega)]; simp [tf, h2]

set_option maxRecDepth 100000 in
set_option maxHeartbeats 1000000 in
theorem times20_any (a b : Nat → Int) (w : World) (ha : InR a) (hb : InR b) :
    Calls Tryd.prog 34 #[.agg (nat20 a), .agg (nat20 b)] w fun e w' => e = .returned (.agg (nat20 (tf a b 20))) ∧ Below w.heap.size w w' := by
  go_enter Tryd.func34, Tryd.ntmps34
  go_wp2_with fail
  go_loopw [6] (fun t6 wr => ∃ i : Nat, i ≤ 20 ∧ t6 = .int .i64 i ∧ wr.rowIs w.heap.size 58 20 (dig a) ∧ wr.rowIs (w.heap.size + 1) 58 20 (dig b) ∧ wr.rowIs (w.heap.size + 1 + 1) 58 20 (dig fun _ => 0) ∧ wr.rowIs (w.heap.size + 1 + 1 + 1) 58 20 (dig (tf a b i)) ∧ Below w.heap.size w wr) (fun t6 _ => 20 - (intOf t6).toNat)
  case atStart =>
    rw [zeros20]
    refine ⟨0, by omega, rfl, ?_, ?_, ?_, ?_, ?_⟩
    · exact (((row_new w a).alloc _).alloc _).alloc _
    · have := ((row_new (w.alloc (.cells (nat20 a) 58)) b).alloc (.cells (nat20 fun _ => 0) 58)).alloc (.cells (nat20 fun _ => 0) 58)
      simpa using this
    · have := (row_new ((w.alloc (.cells (nat20 a) 58)).alloc (.cells (nat20 b) 58)) (fun _ => 0)).alloc (.cells (nat20 fun _ => 0) 58)
      simpa using this
    · have := row_new (((w.alloc (.cells (nat20 a) 58)).alloc (.cells (nat20 b) 58)).alloc (.cells (nat20 fun _ => 0) 58)) (fun _ => 0)
      simpa [tf] using this
    · exact ((((Below.refl _ _).alloc (Nat.le_refl _) _).alloc (by simp) _).alloc (by simp; omega) _).alloc (by simp; omega) _
  case round =>
    obtain ⟨i, hi, rfl, r1, r2, r3, r4, hbl⟩ := hrel
    obtain ⟨wo, rfl⟩ : ∃ wo : World, wo = wr := ⟨_, rfl⟩
    by_cases hlt : i < 20
    · obtain ⟨f, hf⟩ : ∃ f, tf a b i = f := ⟨_, rfl⟩
      have hfi : InR f := by rw [← hf]; exact tf_in a b i
      have HF := Lib.hid hf
      rw [hf] at r4
      clear hf
      obtain ⟨x, hx⟩ : ∃ x, a i = x := ⟨_, rfl⟩
      have hxb := ha i hlt
      rw [hx] at hxb
      have HX := Lib.hid hx
      clear hx
      have R1 := Lib.hid r1
      have R2 := Lib.hid r2
      have R3 := Lib.hid r3
      have R4 := Lib.hid r4
      have HB := Lib.hid hbl
      clear r1 r2 r3 r4 hbl
      go_wp2_with fail
      go_loopw [7, 8] (fun t7 t8 wr => ∃ k : Nat, i + k ≤ 20 ∧ t7 = .int .u64 (tc f b x i k) ∧ t8 = .int .i64 k ∧ wr.rowIs w.heap.size 58 20 (dig a) ∧ wr.rowIs (w.heap.size + 1) 58 20 (dig b) ∧ wr.rowIs (w.heap.size + 1 + 1) 58 20 (dig fun _ => 0) ∧ wr.rowIs (w.heap.size + 1 + 1 + 1) 58 20 (dig (mid f b x i k)) ∧ Below w.heap.size w wr) (fun _ t8 _ => 20 - (intOf t8).toNat)
      case atStart => exact ⟨0, by omega, rfl, rfl, R1.out, R2.out, R3.out, R4.out.congr fun j _ => by simp [dig, mid_zero], HB.out⟩
      case round =>
        obtain ⟨k, hk, rfl, rfl, r1, r2, r3, r4, hbl⟩ := hrel
        by_cases hlk : i + k < 20
        · have hk2 : k < 20 := by omega
          have c1 := r1.cell hlt
          have c2 := r2.cell hk2
          have c4 := r4.cell hlk
          have f4 := r4.frozen (i + k)
          simp only [dig] at c1 c2 c4
          have em : mid f b x i k (i + k) = f (i + k) := by unfold mid; rw [if_neg (by omega)]
          rw [em] at c4
          rw [HX.out] at c1
          obtain ⟨pb1, pb2⟩ := tc_bd f b x i k hk hfi hb hxb
          obtain ⟨hab1, hab2⟩ := hfi (i + k) hlk
          have hbb := hb k hk2
          obtain ⟨pp1, pp2⟩ := prod_bd x (b k) hxb hbb
          obtain ⟨hx1, hx2⟩ := hxb
          have HPC := Lib.hid (show tc f b x i (k + 1) = (f (i + k) + x * b k + tc f b x i k) / 65536 from rfl)
          have HPD := Lib.hid (show td f b x i k = (f (i + k) + x * b k + tc f b x i k) % 65536 from rfl)
          obtain ⟨hb1, hb2⟩ := hbb
          have S1 := Lib.hid r1
          have S2 := Lib.hid r2
          have S3 := Lib.hid r3
          have S4 := Lib.hid r4
          have HB2 := Lib.hid hbl
          clear r1 r2 r3 r4 hbl em
          generalize ex : f (i + k) = y at *
          generalize ey : b k = z at *
          generalize ec : tc f b x i k = c at *
          clear ex ey ec
          obtain ⟨m, hm⟩ : ∃ m, x * z = m := ⟨_, rfl⟩
          rw [hm] at pp1 pp2 HPC HPD
          go_wp2
          go_quiet (fail)
          go_wp2
          go_roundw
          case rel =>
            refine ⟨k + 1, by omega, ?_, by go_num, ?_, ?_, ?_, ?_, ?_⟩
            · rw [HPC.out]
            · exact row_put_other S1.out nq _ (by omega)
            · exact row_put_other S2.out nq _ (by omega)
            · exact row_put_other S3.out nq _ (by omega)
            · refine row_put S4.out nq (i + k) _ fun j hj => ?_
              rw [mid_step, HPD.out]
            · exact below_put HB2.out nq (by simp; omega) _
          case measure => simp [intOf]; omega
        · have hk20 : i + k = 20 := by omega
          have S4 := r4.congr (g := dig (tf a b (i + 1))) fun j hj => by
            rw [dig, dig, ← mid_end a b i k j hk20 hj, HF.out, HX.out]
          have S := Lib.hid (And.intro r1 (And.intro r2 (And.intro r3 (And.intro S4 hbl))))
          clear r1 r2 r3 r4 hbl S4
          go_wp2
          go_roundw
          case rel => exact ⟨i + 1, by omega, by go_num, S.out.1, S.out.2.1, S.out.2.2.1, S.out.2.2.2.1, S.out.2.2.2.2⟩
          case measure => simp [intOf]; omega
    · obtain rfl : i = 20 := by omega
      have g4 := row_of _ _ _ r4
      have r5 := row_of _ _ _ r3
      clear r1 r2 r3 r4
      go_wp2_with (first | (with_reducible refine wpList_load_row rfl 58 _ rfl (w.heap.size + 1 + 1 + 1) rfl 58 _ (0, 0) _ g4 Tryd.underlying58 rfl (by kernel_rfl) ?_) | (with_reducible refine wpList_store_row rfl 58 _ _ rfl (w.heap.size + 1 + 1) _ rfl rfl 58 _ r5 (by kernel_rfl) (by kernel_rfl) (by kernel_rfl) ?_))
      exact bodyPost_ret (v := .agg (nat20 (tf a b 20))) (ret20 rfl _ _ _ _ _ rfl r5) rfl ⟨rfl, below_setRow hbl (by omega) _⟩

end Go.Proofs.YtefkabkncmflpaaDoor
