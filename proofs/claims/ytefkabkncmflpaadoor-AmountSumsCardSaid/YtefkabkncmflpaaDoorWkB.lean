/-
  Walks: products of two words, division of two words by one.
-/
import Derived.Test.YtefkabkncmflpaaDoorWkA
import Derived.Test.YtefkabkncmflpaaDoorKnuth
import Derived.Test.YtefkabkncmflpaaDoorLib
import Derived.Lib.ItoaNum
import Derived.Deep.QuietTactic
import Derived.BigQuiet
import Derived.Deep.CutRange
import Derived.Deep.Cut
import Derived.Deep.CutBlock
import Derived.Lib.Hide
namespace Go.Proofs.YtefkabkncmflpaaDoor
open Go.RowKit

set_option maxHeartbeats 400000 in
theorem times_any (a b : Int) (w : World) (ha : 0 ≤ a) (ha' : a < 18446744073709551616) (hb : 0 ≤ b) (hb' : b < 18446744073709551616) :
    Calls Tryd.prog 30 #[.int .u64 a, .int .u64 b] w fun e w' => ∃ h l : Int, e = .returned (.agg #[.int .u64 h, .int .u64 l]) ∧ a * b = h * 18446744073709551616 + l ∧ 0 ≤ h ∧ h < 18446744073709551616 ∧ 0 ≤ l ∧ l < 18446744073709551616 ∧ Below w.heap.size w w' := by
  obtain ⟨p, hp⟩ : ∃ p, a % 4294967296 * (b % 4294967296) = p := ⟨_, rfl⟩
  obtain ⟨x2, hx2⟩ : ∃ x, a / 4294967296 * (b % 4294967296) = x := ⟨_, rfl⟩
  obtain ⟨x3, hx3⟩ : ∃ x, a % 4294967296 * (b / 4294967296) = x := ⟨_, rfl⟩
  obtain ⟨x4, hx4⟩ : ∃ x, a / 4294967296 * (b / 4294967296) = x := ⟨_, rfl⟩
  obtain ⟨q, hq⟩ : ∃ q, x2 + p / 4294967296 = q := ⟨_, rfl⟩
  obtain ⟨r, hr⟩ : ∃ r, x3 + q % 4294967296 = r := ⟨_, rfl⟩
  obtain ⟨m0, hm0⟩ : ∃ m0, x4 + q / 4294967296 = m0 := ⟨_, rfl⟩
  obtain ⟨m1, hm1⟩ : ∃ m1, m0 + r / 4294967296 = m1 := ⟨_, rfl⟩
  obtain ⟨m2, hm2⟩ : ∃ m2, r % 4294967296 * 4294967296 + p % 4294967296 = m2 := ⟨_, rfl⟩
  have K := halves_mul a b ha ha' hb hb' _ _ _ _ p q r m1 m2 rfl rfl rfl rfl hp.symm (by rw [hx2]; exact hq.symm) (by rw [hx3]; exact hr.symm) (by rw [hx4, hm0]; exact hm1.symm) hm2.symm
  obtain ⟨k0, k1, k2, k3, k4, k5, k6, k7, k8, k9, k10⟩ := K
  have b2 := mul_lt (a / 4294967296) (b % 4294967296) 4294967295 4294967295 (by omega) (by omega) (by omega) (by omega)
  have b3 := mul_lt (a % 4294967296) (b / 4294967296) 4294967295 4294967295 (by omega) (by omega) (by omega) (by omega)
  have b4 := mul_lt (a / 4294967296) (b / 4294967296) 4294967295 4294967295 (by omega) (by omega) (by omega) (by omega)
  rw [hx2] at b2
  rw [hx3] at b3
  rw [hx4] at b4
  obtain ⟨b20, b21⟩ := b2
  obtain ⟨b30, b31⟩ := b3
  obtain ⟨b40, b41⟩ := b4
  have m00 : 0 ≤ m0 := by omega
  have m01 : m0 ≤ m1 := by omega
  have KK := Lib.hid k0; clear k0
  have M2 := Lib.hid hm2; clear hm2
  go_enter Tryd.func30, Tryd.ntmps30
  go_wp2_with (go_at_call 52; refine (halves_any _ _ (by omega) (by omega)).mono ?_; rintro e w' ⟨rfl, rfl⟩)
  have e : bits BinOp.or IntKind.u64 (r % 4294967296 * 4294967296) (p % 4294967296) = m2 := by
    rw [← M2.out]
    exact bits_join .u64 64 (by decide) (fun n h0 h1 => by rw [IntKind.wrap_u64]; omega) 32 _ _ (by omega) (by omega) (by omega) (by omega) (by omega) (by omega)
  rw [e]
  refine bodyPost_ret (v := .agg #[.int .u64 m1, .int .u64 m2]) (by simp [results, Tryd.results30, go_sem]) rfl ⟨m1, m2, rfl, KK.out, k7, k8, k9, k10, ?_⟩
  exact (Below.refl _ _).alloc (Nat.le_refl _) _

set_option maxHeartbeats 400000 in
theorem div64_small (lo y : Int) (w : World) (h0 : 0 ≤ lo) (h1 : lo < 18446744073709551616) (hy : 0 < y) (hy1 : y < 18446744073709551616) :
    Calls Tryd.prog 58 #[.int .u64 0, .int .u64 lo, .int .u64 y] w fun e w' => e = .returned (.tuple #[.int .u64 (lo / y), .int .u64 (lo % y)]) ∧ ∃ n, w' = w.drewN n := by
  have c1 : (y == 0) = false := by simp; omega
  go_enter Tryd.func58, Tryd.ntmps58
  go_wp2
  go_quiet (fail)
  go_wp2
  go_ret2
  exact ⟨rfl, nq, rfl⟩

theorem lz_any (y : Int) (s : Nat) (w : World) (h0 : 0 ≤ y) (h1 : y < 18446744073709551616) (hs : 64 - (Lib.bitLen y.toNat : Int) = s) :
    Calls Tryd.prog 68 #[.int .u64 y] w fun e w' => e = .returned (.int .i64 s) ∧ w = w' :=
  (Tryd.bits_LeadingZeros64 y w h0 (by omega)).mono fun e w' h => ⟨by rw [h.1, hs], h.2.symm⟩

set_option maxHeartbeats 400000 in
theorem div64_big (hi lo y : Int) (s : Nat) (w : World) (hs : s ≤ 63) (hl : 64 - (Lib.bitLen y.toNat : Int) = s) (y64 : y < 18446744073709551616) (hy0 : 2 ^ (63 - s) ≤ y) (hy1 : y < 2 ^ (64 - s)) (h0 : 0 ≤ lo) (h1 : lo < 18446744073709551616) (g0 : 0 < hi) (g1 : hi < y) :
    Calls Tryd.prog 58 #[.int .u64 hi, .int .u64 lo, .int .u64 y] w fun e w' => e = .returned (.tuple #[.int .u64 ((hi * 18446744073709551616 + lo) / y), .int .u64 ((hi * 18446744073709551616 + lo) % y)]) ∧ w = w' := by
  have c1 : (y == 0) = false := by simp; omega
  have c2 : (hi == 0) = false := by simp; omega
  have s0 : (0 : Int) ≤ s := by omega
  have s1 : (s : Int) ≤ 63 := by omega
  have W := words hi lo y s hs hy0 hy1 h0 h1 (by omega) g1
  have hy : 0 < y := by omega
  have HL := Lib.hid hl
  clear hy0 hy1 hl
  obtain ⟨v, hv⟩ : ∃ v, lo * 2 ^ s % 18446744073709551616 = v := ⟨_, rfl⟩
  obtain ⟨u, hu⟩ : ∃ u, hi * 2 ^ s + lo / 2 ^ (64 - s) = u := ⟨_, rfl⟩
  obtain ⟨l, hl⟩ : ∃ l, lo / 2 ^ (64 - s) = l := ⟨_, rfl⟩
  obtain ⟨H, hH⟩ : ∃ H, hi * 2 ^ s = H := ⟨_, rfl⟩
  obtain ⟨Y, hY⟩ : ∃ Y, y * 2 ^ s = Y := ⟨_, rfl⟩
  rw [hv, hu, hl, hH, hY] at W
  obtain ⟨hS, Y0, Y1, H0, H1, l0, l1, u0, u1, v0, v1, or_u, wrap_v, all⟩ := W
  have YS := Lib.hid hY
  have ALL := Lib.hid all
  clear hv hu all
  obtain ⟨yh, hyh⟩ : ∃ x, Y / 4294967296 = x := ⟨_, rfl⟩
  obtain ⟨yl, hyl⟩ : ∃ x, bits BinOp.and IntKind.u64 Y 4294967295 = x := ⟨_, rfl⟩
  obtain ⟨d1, hd1⟩ : ∃ x, v / 4294967296 = x := ⟨_, rfl⟩
  obtain ⟨d0, hd0⟩ : ∃ x, bits BinOp.and IntKind.u64 v 4294967295 = x := ⟨_, rfl⟩
  have eyl : yl = Y % 4294967296 := by rw [← hyl]; exact bits_mask .u64 64 (by decide) (fun n h0 h1 => by rw [IntKind.wrap_u64]; omega) 32 (by decide) _ (by omega) (by omega)
  have ed0 : d0 = v % 4294967296 := by rw [← hd0]; exact bits_mask .u64 64 (by decide) (fun n h0 h1 => by rw [IntKind.wrap_u64]; omega) 32 (by decide) _ (by omega) (by omega)
  have yh0 : 2147483648 ≤ yh := by omega
  have yh1 : yh < 4294967296 := by omega
  have yl0 : 0 ≤ yl := by omega
  have yl1 : yl < 4294967296 := by omega
  have d10 : 0 ≤ d1 := by omega
  have d11 : d1 < 4294967296 := by omega
  have d00 : 0 ≤ d0 := by omega
  have d01 : d0 < 4294967296 := by omega
  have uy : u < yh * 4294967296 + yl := by omega
  have EY := Lib.hid (show yh * 4294967296 + yl = Y by omega)
  have EV := Lib.hid (show d1 * 4294967296 + d0 = v by omega)
  have T0 := Trial.first u0 ⟨d10, d11⟩ ⟨yh0, yh1⟩ ⟨yl0, yl1⟩
  obtain ⟨qa, hqa⟩ : ∃ x, u / yh = x := ⟨_, rfl⟩
  rw [hqa] at T0
  obtain ⟨pa, hpa⟩ : ∃ x, qa * yh = x := ⟨_, rfl⟩
  rw [hpa] at T0
  have qa0 := T0.q0
  have pa0 : 0 ≤ pa := by rw [← hpa]; exact Int.mul_nonneg qa0 (by omega)
  have pa1 := T0.r0
  have pa2 : u - pa < 4294967296 := by
    have h2 := Int.emod_lt_of_pos u (show 0 < yh by omega)
    have h3 := Int.mul_ediv_add_emod u yh
    rw [hqa, Int.mul_comm, hpa] at h3
    omega
  have TT := Lib.hid T0
  clear eyl ed0 T0
  go_enter Tryd.func58, Tryd.ntmps58
  go_upto_block 0 with (go_at_call 68; refine (lz_any _ s _ (by omega) (by omega) HL.out).mono ?_; rintro e w' ⟨rfl, rfl⟩)
  simp only [hqa]
  clear hl hH hY or_u wrap_v hyh hyl hd1 hd0 hqa hpa
  go_cut [15, 16] from 67 to 85 (fun t15 t16 wx => wx = w ∧ ∃ q r : Int, t15 = .int .u64 q ∧ t16 = .int .u64 r ∧ Hid (q = (u * 4294967296 + d1) / Y ∧ (u * 4294967296 + d1) - q * Y = (u * 4294967296 + d1) % Y) ∧ q < 4294967296)
  case first =>
    go_wp2_with fail
    go_loop [15, 16] (fun t15 t16 => ∃ q r : Int, t15 = .int .u64 q ∧ t16 = .int .u64 r ∧ Hid (Trial u yh yl d1 q r) ∧ 0 ≤ q ∧ q ≤ 4294967298 ∧ 0 ≤ r ∧ r < 4294967296) (fun t15 _ => (intOf t15).toNat)
    case atStart => exact ⟨qa, u - pa, rfl, rfl, TT, qa0, Trial.small TT.out ⟨yh0, yh1⟩ ⟨yl0, yl1⟩ uy, pa1, pa2⟩
    case round =>
      obtain ⟨q, r, rfl, rfl, HT, q0, q1, r0, r1⟩ := hrel
      have ql := Int.mul_nonneg q0 yl0
      obtain ⟨m, hm⟩ : ∃ x, q * yl = x := ⟨_, rfl⟩
      rw [hm] at ql
      have HM := Lib.hid hm
      by_cases hA : 4294967296 ≤ q
      · have HN := Lib.hid (Trial.less HT.out ⟨d10, d11⟩ ⟨yh0, yh1⟩ ⟨yl0, yl1⟩ uy (Or.inl hA))
        go_wp2
        · go_meet
          exact ⟨rfl, q - 1, r + yh, rfl, rfl, Lib.hid (Trial.right HN.out ⟨d10, d11⟩ ⟨yh0, yh1⟩ ⟨yl0, yl1⟩ u0 uy EY.out (Trial.past HN.out ⟨d10, d11⟩ ⟨yh0, yh1⟩ ⟨yl0, yl1⟩ uy (by assumption))), (Trial.done HN.out ⟨d10, d11⟩ ⟨yh0, yh1⟩ ⟨yl0, yl1⟩ u0 uy (Trial.past HN.out ⟨d10, d11⟩ ⟨yh0, yh1⟩ ⟨yl0, yl1⟩ uy (by assumption))).2.2⟩
        · go_round
          case rel => exact ⟨q - 1, r + yh, rfl, rfl, HN, by omega, by omega, by omega, by assumption⟩
          case measure => simp [intOf]; omega
      · have hA' : q < 4294967296 := by omega
        have m1 := (mul_lt q yl 4294967295 4294967295 q0 (by omega) yl0 (by omega)).2
        rw [hm] at m1
        by_cases hB : 4294967296 * r + d1 < m
        · have HN := Lib.hid (Trial.less HT.out ⟨d10, d11⟩ ⟨yh0, yh1⟩ ⟨yl0, yl1⟩ uy (Or.inr (by rw [hm]; exact hB)))
          have hq1 : 1 ≤ q := by have := HN.out.q0; omega
          go_wp2
          · go_meet
            exact ⟨rfl, q - 1, r + yh, rfl, rfl, Lib.hid (Trial.right HN.out ⟨d10, d11⟩ ⟨yh0, yh1⟩ ⟨yl0, yl1⟩ u0 uy EY.out (Trial.past HN.out ⟨d10, d11⟩ ⟨yh0, yh1⟩ ⟨yl0, yl1⟩ uy (by assumption))), by omega⟩
          · go_round
            case rel => exact ⟨q - 1, r + yh, rfl, rfl, HN, by omega, by omega, by omega, by assumption⟩
            case measure => simp [intOf]; omega
        · go_wp2
          go_meet
          exact ⟨rfl, q, r, rfl, rfl, Lib.hid (Trial.right HT.out ⟨d10, d11⟩ ⟨yh0, yh1⟩ ⟨yl0, yl1⟩ u0 uy EY.out (by rw [HM.out]; omega)), by omega⟩
  case rest =>
    obtain ⟨rfl, Q, r, rfl, rfl, HQ, Q1⟩ := hcut
    obtain ⟨hQ, hR⟩ := HQ.out
    obtain ⟨R1, hR1⟩ : ∃ x, (u * 4294967296 + d1) % Y = x := ⟨_, rfl⟩
    rw [hR1] at hR
    have r0 : 0 ≤ R1 := by rw [← hR1]; exact Int.emod_nonneg _ (by omega)
    have r1 : R1 < Y := by rw [← hR1]; exact Int.emod_lt_of_pos _ (by omega)
    have Q0 : 0 ≤ Q := by rw [hQ]; exact Int.ediv_nonneg (by omega) (by omega)
    have e21 := wrap_rest u d1 (Q * Y) R1 hR r0 (by omega)
    have ry : R1 < yh * 4294967296 + yl := by have := EY.out; omega
    have T1 := Trial.first r0 ⟨d00, d01⟩ ⟨yh0, yh1⟩ ⟨yl0, yl1⟩
    obtain ⟨qb, hqb⟩ : ∃ x, R1 / yh = x := ⟨_, rfl⟩
    rw [hqb] at T1
    obtain ⟨pb, hpb⟩ : ∃ x, qb * yh = x := ⟨_, rfl⟩
    rw [hpb] at T1
    have qb0 := T1.q0
    have pb0 : 0 ≤ pb := by rw [← hpb]; exact Int.mul_nonneg qb0 (by omega)
    have pb1 := T1.r0
    have pb2 : R1 - pb < 4294967296 := by
      have h2 := Int.emod_lt_of_pos R1 (show 0 < yh by omega)
      have h3 := Int.mul_ediv_add_emod R1 yh
      rw [hqb, Int.mul_comm, hpb] at h3
      omega
    have TT1 := Lib.hid T1
    have HR := Lib.hid hR
    clear T1 hQ hR hR1 TT
    go_upto_block 2 with fail
    simp only [hqb]
    clear e21 hqb hpb
    go_cut [16, 18] from 102 to 120 (fun t16 t18 wx => wx = wc ∧ ∃ q r : Int, t18 = .int .u64 q ∧ t16 = .int .u64 r ∧ Hid (q = (R1 * 4294967296 + d0) / Y ∧ (R1 * 4294967296 + d0) - q * Y = (R1 * 4294967296 + d0) % Y) ∧ q < 4294967296)
    case first =>
      go_wp2_with fail
      go_loop [16, 18] (fun t16 t18 => ∃ q r : Int, t18 = .int .u64 q ∧ t16 = .int .u64 r ∧ Hid (Trial R1 yh yl d0 q r) ∧ 0 ≤ q ∧ q ≤ 4294967298 ∧ 0 ≤ r ∧ r < 4294967296) (fun _ t18 => (intOf t18).toNat)
      case atStart => exact ⟨qb, R1 - pb, rfl, rfl, TT1, qb0, Trial.small TT1.out ⟨yh0, yh1⟩ ⟨yl0, yl1⟩ ry, pb1, pb2⟩
      case round =>
        obtain ⟨q, r, rfl, rfl, HT, q0, q1, rr0, rr1⟩ := hrel
        have ql := Int.mul_nonneg q0 yl0
        obtain ⟨m, hm⟩ : ∃ x, q * yl = x := ⟨_, rfl⟩
        rw [hm] at ql
        have HM := Lib.hid hm
        by_cases hA : 4294967296 ≤ q
        · have HN := Lib.hid (Trial.less HT.out ⟨d00, d01⟩ ⟨yh0, yh1⟩ ⟨yl0, yl1⟩ ry (Or.inl hA))
          go_wp2
          · go_meet
            exact ⟨rfl, q - 1, r + yh, rfl, rfl, Lib.hid (Trial.right HN.out ⟨d00, d01⟩ ⟨yh0, yh1⟩ ⟨yl0, yl1⟩ r0 ry EY.out (Trial.past HN.out ⟨d00, d01⟩ ⟨yh0, yh1⟩ ⟨yl0, yl1⟩ ry (by assumption))), (Trial.done HN.out ⟨d00, d01⟩ ⟨yh0, yh1⟩ ⟨yl0, yl1⟩ r0 ry (Trial.past HN.out ⟨d00, d01⟩ ⟨yh0, yh1⟩ ⟨yl0, yl1⟩ ry (by assumption))).2.2⟩
          · go_round
            case rel => exact ⟨q - 1, r + yh, rfl, rfl, HN, by omega, by omega, by omega, by assumption⟩
            case measure => simp [intOf]; omega
        · have hA' : q < 4294967296 := by omega
          have m1 := (mul_lt q yl 4294967295 4294967295 q0 (by omega) yl0 (by omega)).2
          rw [hm] at m1
          by_cases hB : 4294967296 * r + d0 < m
          · have HN := Lib.hid (Trial.less HT.out ⟨d00, d01⟩ ⟨yh0, yh1⟩ ⟨yl0, yl1⟩ ry (Or.inr (by rw [hm]; exact hB)))
            have hq1 : 1 ≤ q := by have := HN.out.q0; omega
            go_wp2
            · go_meet
              exact ⟨rfl, q - 1, r + yh, rfl, rfl, Lib.hid (Trial.right HN.out ⟨d00, d01⟩ ⟨yh0, yh1⟩ ⟨yl0, yl1⟩ r0 ry EY.out (Trial.past HN.out ⟨d00, d01⟩ ⟨yh0, yh1⟩ ⟨yl0, yl1⟩ ry (by assumption))), by omega⟩
            · go_round
              case rel => exact ⟨q - 1, r + yh, rfl, rfl, HN, by omega, by omega, by omega, by assumption⟩
              case measure => simp [intOf]; omega
          · go_wp2
            go_meet
            exact ⟨rfl, q, r, rfl, rfl, Lib.hid (Trial.right HT.out ⟨d00, d01⟩ ⟨yh0, yh1⟩ ⟨yl0, yl1⟩ r0 ry EY.out (by rw [HM.out]; omega)), by omega⟩
    case rest =>
      obtain ⟨rfl, P, r, rfl, rfl, HP, P1⟩ := hcut
      obtain ⟨hP, hRR⟩ := HP.out
      obtain ⟨R0, hR0⟩ : ∃ x, (R1 * 4294967296 + d0) % Y = x := ⟨_, rfl⟩
      rw [hR0] at hRR
      have rr0 : 0 ≤ R0 := by rw [← hR0]; exact Int.emod_nonneg _ (by omega)
      have rr1 : R0 < Y := by rw [← hR0]; exact Int.emod_lt_of_pos _ (by omega)
      have P0 : 0 ≤ P := by rw [hP]; exact Int.ediv_nonneg (by omega) (by omega)
      have e20 := wrap_rest R1 d0 (P * Y) R0 hRR rr0 (by omega)
      have J := join_digits _ _ _ _ _ _ _ _ _ _ _ _ ALL.out EV.out HR.out hRR YS.out hS hy rr0 rr1
      have HJ := Lib.hid J
      clear J hP hRR hR0
      go_wp2
      go_ret2
      exact ⟨ret_two HJ.out.1 HJ.out.2, rfl⟩

theorem div64_any (hi lo y : Int) (w : World) (y64 : y < 18446744073709551616) (h0 : 0 ≤ lo) (h1 : lo < 18446744073709551616) (g0 : 0 ≤ hi) (g1 : hi < y) :
    Calls Tryd.prog 58 #[.int .u64 hi, .int .u64 lo, .int .u64 y] w fun e w' => e = .returned (.tuple #[.int .u64 ((hi * 18446744073709551616 + lo) / y), .int .u64 ((hi * 18446744073709551616 + lo) % y)]) ∧ ∃ n, w' = w.drewN n := by
  by_cases hz : hi = 0
  · subst hz
    refine (div64_small lo y w h0 h1 g1 y64).mono fun e w' h => ?_
    simpa using h
  · have b := Lib.bitLenAux_bounds 64 y.toNat (by have : (2 : Nat) ^ 64 = 18446744073709551616 := rfl; omega) (by omega)
    have bl : Lib.bitLenAux 64 y.toNat ≤ 64 := Lib.bitLenAux_le 64 y.toNat 64 (by have : (2 : Nat) ^ 64 = 18446744073709551616 := rfl; omega)
    have e : Lib.bitLen y.toNat = Lib.bitLenAux 64 y.toNat := rfl
    rw [← e] at b bl
    generalize hL : Lib.bitLen y.toNat = L at *
    obtain ⟨b0, b1, b2⟩ := b
    refine (div64_big hi lo y (64 - L) w (by omega) (by rw [hL]; omega) y64 ?_ ?_ h0 h1 (by omega) g1).mono fun e w' h => ⟨h.1, 0, ?_⟩
    · rw [show 63 - (64 - L) = L - 1 by omega]
      have : ((2 ^ (L - 1) : Nat) : Int) ≤ (y.toNat : Int) := by exact_mod_cast b1
      rw [Int.natCast_pow] at this
      simpa [Int.toNat_of_nonneg (show 0 ≤ y by omega)] using this
    · rw [show 64 - (64 - L) = L by omega]
      have : (y.toNat : Int) < ((2 ^ L : Nat) : Int) := by exact_mod_cast b2
      rw [Int.natCast_pow] at this
      simpa [Int.toNat_of_nonneg (show 0 ≤ y by omega)] using this
    · rw [h.2]; rfl

end Go.Proofs.YtefkabkncmflpaaDoor
