/-
  Walks: a number that is read, by the program.
-/
import Derived.Test.YtimonpoeieenpaaKVb
namespace Go.Proofs.Ytimonpoeieenpaa
open Go.RowKit

/-- What a read of a number answers. -/
def ansP (R : Int × Nat × Int) (a : Nat) : Int × Int × Int := if R.2.2 = 0 then (R.1, (a : Int) + (R.2.1 : Int), 0) else (0, 0, R.2.2)
theorem uintP_in (L : List Int) (a : Nat) (h : a ≤ L.length) : uintP L a = ansP (rd 0 0 (L.drop a)) a := by
  unfold uintP ansP
  rw [if_neg (by omega)]
  simp only [Int.toNat_natCast]
theorem uintP_out (L : List Int) (at_ : Int) (h : at_ < 0 ∨ (L.length : Int) < at_) : uintP L at_ = (0, 0, 2) := by
  unfold uintP
  rw [if_pos h]
/-- One round of reading. -/
theorem rd_cons {i : Nat} {a c : Int} {t : List Int} (R : Int × Nat × Int) (h : rd i a (c :: t) = R) :
    (i = 9 ∧ 1 < c ∧ R = (0, 0, 11)) ∨ (¬ (i = 9 ∧ 1 < c) ∧ 128 ≤ c ∧ rd (i + 1) (a + c % 128 * 128 ^ i) t = R) ∨ (¬ (i = 9 ∧ 1 < c) ∧ c < 128 ∧ c = 0 ∧ 0 < i ∧ R = (0, 0, 11)) ∨ (¬ (i = 9 ∧ 1 < c) ∧ c < 128 ∧ ¬ (c = 0 ∧ 0 < i) ∧ R = (a + c % 128 * 128 ^ i, i + 1, 0)) := by
  unfold rd at h
  by_cases h9 : i = 9 ∧ 1 < c
  · rw [if_pos h9] at h; exact .inl ⟨h9.1, h9.2, h.symm⟩
  · rw [if_neg h9] at h
    by_cases hm : 128 ≤ c
    · rw [if_pos hm] at h; exact .inr (.inl ⟨h9, hm, h⟩)
    · rw [if_neg hm] at h
      by_cases hz : c = 0 ∧ 0 < i
      · rw [if_pos hz] at h; exact .inr (.inr (.inl ⟨h9, by omega, hz.1, hz.2, h.symm⟩))
      · rw [if_neg hz] at h; exact .inr (.inr (.inr ⟨h9, by omega, hz, h.symm⟩))
theorem join_eq (s d : Int) (i : Nat) (hi : i ≤ 9) (s0 : 0 ≤ s) (s1 : s < 128 ^ i) (d0 : 0 ≤ d) (d1 : d * 128 ^ i ≤ 18446744073709551615) : bits .or .u64 s (IntKind.u64.wrap (d * 2 ^ (7 * i))) = s + d * 128 ^ i := by
  have e : (2 : Int) ^ (7 * i) = 128 ^ i := by rw [Int.pow_mul]; rfl
  have p0 := (pow_in i hi).1
  have m0 : 0 ≤ d * 128 ^ i := Int.mul_nonneg d0 (by omega)
  rw [e, IntKind.wrap_u64, Int.emod_eq_of_lt m0 (by omega), or_join s d i hi s0 s1 d0 d1]
/-- What a round adds fits. -/
theorem round_fits (s x : Int) (i : Nat) (hi : i ≤ 9) (s0 : 0 ≤ s) (s1 : s < 128 ^ i) (x0 : 0 ≤ x) (x1 : x < 256) (h9 : ¬ (i = 9 ∧ 1 < x)) : x % 128 * 128 ^ i ≤ 18446744073709551615 ∧ 0 ≤ s + x % 128 * 128 ^ i ∧ s + x % 128 * 128 ^ i < 128 ^ (i + 1) := by
  obtain ⟨p0, p1⟩ := pow_in i hi
  obtain ⟨f0, f1, f2⟩ := rd_fits (x % 128) (128 ^ i) s (by omega) (by omega) p0 s0 s1
  refine ⟨?_, by omega, by rw [Int.pow_succ]; exact f2⟩
  by_cases e : i = 9
  · subst e
    have e9 : (128 : Int) ^ 9 = 9223372036854775808 := by decide
    rw [e9] at *
    omega
  · have := (pow_in (i + 1) (by omega)).2
    rw [Int.pow_succ] at this
    omega
def Ans (p : Int × Int × Int) : Ending := .returned (.tuple #[.int .u64 p.1, .int .i64 p.2.1, .int .i64 p.2.2])
set_option maxRecDepth 100000 in
theorem uint_out (A : Option Addr) (L : List Int) (n c : Nat) (at_ : Int) (w : World) (hn : L.length = n) (_hc : (n : Int) ≤ 9223372036854775807) (h : at_ < 0 ∨ (n : Int) < at_) :
    Calls Try.prog 40 #[.slice A n c, .int .i64 at_] w fun e w' => e = Ans (uintP L at_) ∧ w = w' := by
  rw [uintP_out L at_ (by omega)]
  clear hn
  by_cases h0 : at_ < 0
  · clear h
    go_enter Try.func40, Try.ntmps40
    go_wp2
    go_ret3
    exact ⟨rfl, rfl⟩
  · have h1 : (n : Int) < at_ := by omega
    have h0' : decide (at_ < 0) = false := by simpa using h0
    clear h
    go_enter Try.func40, Try.ntmps40
    go_wp2
    go_ret3
    exact ⟨rfl, rfl⟩
set_option maxRecDepth 100000 in
set_option maxHeartbeats 1000000 in
theorem uint_in (A : Option Addr) (L : List Int) (a k c : Nat) (w : World) (hn : L.length = a + k) (hc : a + k ≤ c) (hc2 : (c : Int) ≤ 9223372036854775807) (h : Bys w A L) (hB : Byt L) :
    Calls Try.prog 40 #[.slice A (a + k) c, .int .i64 (a : Int)] w fun e w' => e = Ans (uintP L a) ∧ w = w' := by
  rw [uintP_in L a (by omega)]
  obtain ⟨A', hsl, hb⟩ := slice_low h a k c hn hc
  have HB := Lib.hid hb
  have HY := Lib.hid (hB.drop a)
  have HK : Hid ((L.drop a).length = k) := Lib.hid (by simp; omega)
  generalize L.drop a = M at HB HY HK ⊢
  obtain ⟨R, hR⟩ : ∃ R, rd 0 0 M = R := ⟨_, rfl⟩
  have HR := Lib.hid hR
  rw [hR]
  have ha0 : decide ((a : Int) < 0) = false := by simp
  have ha1 : decide (((a + k : Nat) : Int) < (a : Int)) = false := by simp; omega
  have hak : (a : Int) + k ≤ 9223372036854775807 := by omega
  clear h hB hb hn hR
  go_enter Try.func40, Try.ntmps40
  go_wp2_with fail
  go_loop [7, 22] (fun t7 t22 => ∃ (i : Nat) (s : Int), i ≤ 9 ∧ i ≤ k ∧ t22 = .int .i64 i ∧ t7 = .int .u64 s ∧ 0 ≤ s ∧ s < 128 ^ i ∧ Hid (rd i s (M.drop i) = R)) (fun _ t22 => k - (intOf t22).toNat)
  case atStart => exact ⟨0, 0, by omega, by omega, rfl, rfl, Int.le_refl _, by decide, HR⟩
  case round =>
    obtain ⟨i, s, i9, hik, rfl, rfl, s0, s1, hr⟩ := hrel
    by_cases hlt : i < k
    · have hM := HK.out
      have hx := List.getElem?_eq_getElem (l := M) (i := i) (by omega)
      have hd : M.drop i = M[i]'(by omega) :: M.drop (i + 1) := List.drop_eq_getElem_cons (by omega)
      obtain ⟨x0, x1⟩ := HY.out _ (List.getElem_mem (l := M) (n := i) (by omega))
      have hr' := hr.out
      rw [hd] at hr'
      generalize M[i]'(by omega) = x at hx hr' x0 x1
      obtain ⟨ad, rfl, hcell⟩ := HB.out.resolve_left (fun e => by subst e; simp at hM; omega)
      have c1 := hcell i x hx
      have hcase := rd_cons R hr'
      have hij : (i : Int) < k := by omega
      clear hr' hcell hd hx hr
      obtain ⟨q0, q1, q2⟩ : _ ∧ _ ∧ _ := ⟨x0, x1, hij⟩
      rcases hcase with ⟨e9, h1, rfl⟩ | ⟨h9, hm, hr2⟩ | ⟨h9, hm, rfl, hz, rfl⟩ | ⟨h9, hm, hz, rfl⟩
      · have e9' : ((i : Int) == 9) = true := by simp; omega
        clear e9
        go_wp2
        go_ret3
        exact ⟨rfl, rfl⟩
      · have hi9 : i ≠ 9 := fun e => h9 ⟨e, by omega⟩
        have hi9' : ((i : Int) == 9) = false := by simp; omega
        obtain ⟨f0, f1, f2⟩ := round_fits s x i i9 s0 s1 x0 x1 h9
        have HJ := Lib.hid (join_eq s (x % 128) i i9 s0 s1 (by omega) f0)
        have F := Lib.hid (And.intro f1 f2)
        have H2 := Lib.hid hr2
        clear h9 f0 f1 f2 hr2 s0 s1
        go_wp2
        go_round
        case rel => exact ⟨i + 1, _, by omega, by omega, by go_num, int_eq HJ.out, F.out.1, F.out.2, H2⟩
        case measure => simp [intOf]; omega
      · have hi0 : decide (0 < (i : Int)) = true := by simp; omega
        go_wp2
        all_goals (go_ret3; exact ⟨rfl, rfl⟩)
      · obtain ⟨f0, f1, f2⟩ := round_fits s x i i9 s0 s1 x0 x1 h9
        have HJ := Lib.hid (join_eq s (x % 128) i i9 s0 s1 (by omega) f0)
        clear f0 f1 f2 s0 s1
        by_cases e9 : i = 9
        · have e9' : ((i : Int) == 9) = true := by simp; omega
          have hx1 : decide (1 < x) = false := by simp; omega
          have hx0 : (x == 0) = false := by simp; omega
          have hI := Lib.hid e9
          clear e9 h9 hz
          go_wp2
          go_ret3
          exact ⟨by rw [HJ.out]; simp [Ans, ansP]; omega, rfl⟩
        · have e9' : ((i : Int) == 9) = false := by simp; omega
          by_cases x00 : x = 0
          · have hi0 : i = 0 := by omega
            have hi1 : decide (0 < (i : Int)) = false := by simp; omega
            have hx0 : (x == 0) = true := by simpa using x00
            have hI := Lib.hid hi0
            clear h9 hz e9 hi0 x00
            go_wp2
            all_goals first
              | (exfalso; have := hI.out; omega)
              | (go_ret3; exact ⟨by rw [HJ.out]; simp [Ans, ansP]; omega, rfl⟩)
          · have hx0 : (x == 0) = false := by simp; omega
            clear e9 h9 hz x00
            go_wp2
            go_ret3
            exact ⟨by rw [HJ.out]; simp [Ans, ansP]; omega, rfl⟩
    · obtain rfl : i = k := by omega
      have hd : M.drop i = [] := List.drop_of_length_le (by have := HK.out; omega)
      have hr' := hr.out
      rw [hd] at hr'
      obtain rfl : (0, 0, 10) = R := hr'
      go_wp2
      go_ret3
      exact ⟨rfl, rfl⟩

end Go.Proofs.Ytimonpoeieenpaa
