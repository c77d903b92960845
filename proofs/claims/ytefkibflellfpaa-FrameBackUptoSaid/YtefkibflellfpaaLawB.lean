/-
  The law FrameSums.
-/
import Derived.Test.YtefkibflellfpaaLawA
import Derived.Test.YtefkibflellfpaaMemK
namespace Go.Proofs.Ytefkibflellfpaa
open Go.RowKit

theorem sum_on (w0 w : World) (A : Option Addr) (L : List Int) (n c v : Nat) (hv : sumL L = v) (hw : Below w0.heap.size w0 w) (h : In w A L n c) :
    Calls Try.prog 10 #[.slice A n c] w fun e w' => e = .returned (.int .u32 (v : Nat)) ∧ Hid (Below w.heap.size w w') ∧ Hid (Below w0.heap.size w0 w') := by
  subst hv
  refine (sum_any A L n c w h).mono ?_
  rintro e w' ⟨rfl, h2⟩
  exact ⟨rfl, Lib.hid h2, Lib.hid (below_then hw h2)⟩
theorem refSum_on (w : World) (A : Option Addr) (L : List Int) (n c v : Nat) (hv : sumL L = v) (h : In w A L n c) :
    Calls Try.prog 12 #[.slice A n c] w fun e w' => e = .returned (.int .u32 (v : Nat)) ∧ w = w' := by
  subst hv
  exact refSum_any A L n c w h

/-- A byte, turned in one bit. -/
theorem turned (x : Int) (r : Nat) (h0 : 0 ≤ x) (h1 : x < 256) (hr : r < 8) : 0 ≤ bits .xor .u8 x (2 ^ r) ∧ bits .xor .u8 x (2 ^ r) < 256 ∧ bits .xor .u8 x (2 ^ r) ≠ x := by
  obtain ⟨X, rfl⟩ := Int.eq_ofNat_of_zero_le h0
  have hp : (2 : Nat) ^ r < 256 := Nat.pow_lt_pow_right (m := r) (n := 8) (by omega) hr
  have e : (2 : Int) ^ r = ((2 ^ r : Nat) : Int) := by simp
  have hx : X < 256 := by omega
  rw [e, u8_xor_nat X (2 ^ r) hx hp]
  have hlt : X ^^^ 2 ^ r < 2 ^ 8 := Nat.xor_lt_two_pow hx hp
  refine ⟨by omega, by omega, fun k => ?_⟩
  have k' : X ^^^ 2 ^ r = X := by omega
  have : (2 : Nat) ^ r = 0 := by
    have h := congrArg (X ^^^ ·) k'
    simp only [← Nat.xor_assoc, Nat.xor_self, Nat.zero_xor] at h
    exact h
  have := Nat.two_pow_pos r
  omega
theorem sumL_set (L : List Int) (j : Nat) (x y : Int) (hB : Byt L) (hx : L[j]? = some x) (h0 : 0 ≤ y) (h1 : y < 256) (hn : y ≠ x) : sumL (L.set j y) ≠ sumL L := by
  obtain ⟨hj, e⟩ := List.getElem?_eq_some_iff.1 hx
  have e1 : L = L.take j ++ x :: L.drop (j + 1) := by
    rw [← e, ← List.drop_eq_getElem_cons hj, List.take_append_drop]
  have e2 : L.set j y = L.take j ++ y :: L.drop (j + 1) := by rw [List.set_eq_take_append_cons_drop, if_pos hj]
  have key := sumL_turn (L.take j) (L.drop (j + 1)) y x (fun z hz => (hB.take j) z hz) (fun z hz => (hB.drop (j + 1)) z hz) ⟨h0, h1⟩ (hB x (List.mem_of_getElem? hx)) hn
  rw [← e1, ← e2] at key
  exact key

set_option maxRecDepth 100000 in
set_option maxHeartbeats 2000000 in
theorem sums_law (A : Option Addr) (L : List Int) (n c : Nat) (at_ : Int) (w : World) (h : In w A L n c) (hs : n ≤ 140737488355328) (ha : -9223372036854775808 ≤ at_ ∧ at_ ≤ 9223372036854775807) :
    Calls Try.prog 3 #[.slice A n c, .int .i64 at_] w (AllTrue w) := by
  obtain ⟨v, hv⟩ : ∃ v, sumL L = v := ⟨_, rfl⟩
  have HV := Lib.hid hv
  have HI := Lib.hid h
  have HS := Lib.hid hs
  have HA := Lib.hid ha
  clear h hs hv ha
  by_cases hn : n = 0
  · have hz : ((n : Int) == 0) = true := by simp; omega
    clear hn
    go_enter Try.func3, Try.ntmps3
    go_wp2_with (first
      | (go_at_call 9; refine (wakes_on w _ (Below.refl _ _)).mono ?_; rintro e1 w1 ⟨rfl, b1⟩)
      | (go_at_call 11; (with_reducible refine (own_on w _ A L n c b1.out HI.out.len (HI.out.bys.kept b1.out) HS.out).mono ?_); rintro e2 w2 ⟨A2, c2, rfl, r2, k2, b2⟩)
      | (go_at_call 10; (with_reducible refine (sum_on w _ A2 L n c2 v HV.out b2.out (r2.out.in_n HI.out.byt HI.out.len)).mono ?_); rintro e3 w3 ⟨rfl, k3, b3⟩)
      | (go_at_call 12; refine (refSum_on _ A L n c v HV.out (HI.out.kept b3.out)).mono ?_; rintro e5 w5 ⟨rfl, hw⟩; subst hw)
      | (go_at_call 10; refine (sum_on w _ none [] 0 0 0 rfl b3.out ⟨rfl, Nat.le_refl _, by decide, .inl rfl, Byt.nil⟩).mono ?_; rintro e6 w6 ⟨rfl, k6, b6⟩))
    go_ret
    exact ⟨by simp, b6.out⟩
  · have hz : ((n : Int) == 0) = false := by simp; omega
    have hw8 : IntKind.u64.wrap (wrap64 (8 * (n : Int))) = 8 * (n : Int) := by
      have := HS.out
      simp only [IntKind.wrap_u64]
      unfold wrap64
      omega
    have hd0 : ¬ IntKind.u64.wrap (wrap64 (8 * (n : Int))) = 0 := by rw [hw8]; omega
    obtain ⟨k, hk, hkn⟩ : ∃ k : Nat, wrap64 ((IntKind.u64.wrap at_).tmod (IntKind.u64.wrap (wrap64 (8 * (n : Int))))) = (k : Int) ∧ k < 8 * n := by
      rw [hw8]
      have h1 : 0 ≤ IntKind.u64.wrap at_ := by simp only [IntKind.wrap_u64]; omega
      rw [Int.tmod_eq_emod_of_nonneg h1]
      have h2 := Int.emod_nonneg (IntKind.u64.wrap at_) (show (8 * (n : Int)) ≠ 0 by omega)
      have h3 := Int.emod_lt_of_pos (IntKind.u64.wrap at_) (show (0 : Int) < 8 * (n : Int) by omega)
      generalize IntKind.u64.wrap at_ % (8 * (n : Int)) = y at h2 h3
      have := HS.out
      refine ⟨y.toNat, ?_, by omega⟩
      unfold wrap64
      omega
    have HK := Lib.hid hk
    have HKN := Lib.hid hkn
    have HNZ := Lib.hid hn
    clear hn hk hkn hw8
    go_enter Try.func3, Try.ntmps3
    go_upto_region 7 with (first
      | (go_at_call 9; refine (wakes_on w _ (Below.refl _ _)).mono ?_; rintro e1 w1 ⟨rfl, b1⟩)
      | (go_at_call 11; (with_reducible refine (own_on w _ A L n c b3.out HI.out.len (HI.out.bys.kept b3.out) HS.out).mono ?_); rintro e4 w4 ⟨A4, c4, rfl, r4, k4, b4⟩)
      | (go_at_call 11; (with_reducible refine (own_on w _ A L n c b1.out HI.out.len (HI.out.bys.kept b1.out) HS.out).mono ?_); rintro e2 w2 ⟨A2, c2, rfl, r2, k2, b2⟩)
      | (go_at_call 10; refine (sum_on w _ A2 L n c2 v HV.out b2.out (r2.out.in_n HI.out.byt HI.out.len)).mono ?_; rintro e3 w3 ⟨rfl, k3, b3⟩)
      | (go_at_call 12; refine (refSum_on _ A L n c v HV.out (HI.out.kept b3.out)).mono ?_; rintro e5 w5 ⟨rfl, hw⟩; subst hw))
    rw [HK.out]
    obtain ⟨j, hj⟩ : ∃ j, k / 8 = j := ⟨_, rfl⟩
    obtain ⟨r, hr⟩ : ∃ r, k % 8 = r := ⟨_, rfl⟩
    have hr8 : r < 8 := by omega
    have hjn : j < n := by have := HKN.out; omega
    have q1 : wrap64 ((k : Int) / 8) = (j : Int) := by have := HKN.out; have := HS.out; unfold wrap64; omega
    obtain ⟨g, x, rfl, hx, d0, f0, hset⟩ := row_at (k := j) r4.out (by rw [HI.out.len]; exact hjn)
    have HSET := Lib.hid hset
    have HXX := Lib.hid hx
    obtain ⟨y, hy⟩ : ∃ y, bits .xor .u8 x (2 ^ r % 256) = y := ⟨_, rfl⟩
    obtain ⟨x0, x1⟩ := HI.out.byt x (List.mem_of_getElem? hx)
    have hp : (2 : Int) ^ r % 256 = 2 ^ r := by
      have h1 : (2 : Int) ^ r = ((2 ^ r : Nat) : Int) := by simp
      have h2 : (2 : Nat) ^ r < 256 := Nat.pow_lt_pow_right (m := r) (n := 8) (by omega) hr8
      rw [h1]
      exact Int.emod_eq_of_lt (Int.natCast_nonneg _) (by exact_mod_cast h2)
    obtain ⟨y0, y1, yn⟩ := turned x r x0 x1 hr8
    rw [← hp, hy] at y0 y1 yn
    obtain ⟨u, hu⟩ : ∃ u, sumL (L.set j y) = u := ⟨_, rfl⟩
    have hne : ((u : Int) == (v : Int)) = false := by
      have := sumL_set L j x y HI.out.byt hx y0 y1 yn
      rw [hu, HV.out] at this
      simp
      omega
    have HU := Lib.hid hu
    have hg := (own_in r4.out _ rfl).1
    have R5 : Hid (Row (w4.setCell ⟨g, j, none⟩ (.int .u8 y)) w3.heap.size (some ⟨g, 0, none⟩) c4 (L.set j y)) := Lib.hid (HSET.out y)
    have I5 : Hid (In (w4.setCell ⟨g, j, none⟩ (.int .u8 y)) (some ⟨g, 0, none⟩) (L.set j y) n c4) := Lib.hid (R5.out.in_n (fun z hz => by
      rcases List.mem_or_eq_of_mem_set hz with hz | rfl
      · exact HI.out.byt z hz
      · exact ⟨y0, y1⟩) (by rw [List.length_set]; exact HI.out.len))
    have B5 : Hid (Below w.heap.size w (w4.setCell ⟨g, j, none⟩ (.int .u8 y))) := Lib.hid (b4.out.setCell (p := ⟨g, j, none⟩) (by have := b3.out.size; simp only at hg ⊢; omega) _)
    clear hd0 hset hx hp y0 y1 yn hu hg
    go_wp2_with (first
      | (go_at_call 10; (try rw [hy]); refine (sum_on w _ _ (L.set j y) n c4 u HU.out B5.out I5.out).mono ?_; rintro e6 w6 ⟨rfl, k6, b6⟩)
      | (go_at_call 12; refine (refSum_on _ A L n c v HV.out (HI.out.kept b6.out)).mono ?_; rintro e7 w7 ⟨rfl, hw⟩; subst hw))
    go_ret
    exact ⟨by simp; simpa using hne, b6.out⟩

end Go.Proofs.Ytefkibflellfpaa
