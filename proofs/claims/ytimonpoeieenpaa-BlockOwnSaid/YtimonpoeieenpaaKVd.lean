/-
  Walks: a number that is read, by the document.
-/
import Derived.Test.YtimonpoeieenpaaKVc
namespace Go.Proofs.Ytimonpoeieenpaa
open Go.RowKit

set_option maxRecDepth 100000 in
theorem uintR_out (A : Option Addr) (L : List Int) (n c : Nat) (at_ : Int) (w : World) (hn : L.length = n) (_hc : (n : Int) ≤ 9223372036854775807) (h : at_ < 0 ∨ (n : Int) < at_) :
    Calls Try.prog 28 #[.slice A n c, .int .i64 at_] w fun e w' => e = Ans (uintP L at_) ∧ w = w' := by
  rw [uintP_out L at_ (by omega)]
  clear hn
  by_cases h0 : at_ < 0
  · clear h
    go_enter Try.func28, Try.ntmps28
    go_wp2
    go_ret3
    exact ⟨rfl, rfl⟩
  · have h1 : (n : Int) < at_ := by omega
    have h0' : decide (at_ < 0) = false := by simpa using h0
    clear h
    go_enter Try.func28, Try.ntmps28
    go_wp2
    go_ret3
    exact ⟨rfl, rfl⟩
set_option maxRecDepth 100000 in
set_option maxHeartbeats 1000000 in
theorem uintR_in (A : Option Addr) (L : List Int) (a k c : Nat) (w : World) (hn : L.length = a + k) (hc : a + k ≤ c) (hc2 : (c : Int) ≤ 9223372036854775807) (h : Bys w A L) (hB : Byt L) :
    Calls Try.prog 28 #[.slice A (a + k) c, .int .i64 (a : Int)] w fun e w' => e = Ans (uintP L a) ∧ w = w' := by
  rw [uintP_in L a (by omega)]
  have HB := Lib.hid h
  have HY := Lib.hid hB
  have HK := Lib.hid hn
  obtain ⟨R, hR⟩ : ∃ R, rd 0 0 (L.drop a) = R := ⟨_, rfl⟩
  have HR := Lib.hid hR
  rw [hR]
  have ha0 : decide ((a : Int) < 0) = false := by simp
  have ha1 : decide (((a + k : Nat) : Int) < (a : Int)) = false := by simp; omega
  have hak : (a : Int) + k ≤ 9223372036854775807 := by omega
  clear h hB hn hR
  go_enter Try.func28, Try.ntmps28
  go_wp2_with fail
  go_loop [7, 8, 9] (fun t7 t8 t9 => ∃ (i : Nat) (s : Int), i ≤ 9 ∧ i ≤ k ∧ t9 = .int .i64 i ∧ t8 = .int .u64 (128 ^ i) ∧ t7 = .int .u64 s ∧ 0 ≤ s ∧ s < 128 ^ i ∧ Hid (rd i s (L.drop (a + i)) = R)) (fun _ _ t9 => k - (intOf t9).toNat)
  case atStart => exact ⟨0, 0, by omega, by omega, rfl, rfl, rfl, Int.le_refl _, by decide, HR⟩
  case round =>
    obtain ⟨i, s, i9, hik, rfl, rfl, rfl, s0, s1, hr⟩ := hrel
    have hi10 : decide ((i : Int) < 10) = true := by simp; omega
    by_cases hlt : i < k
    · have hM := HK.out
      have hx := List.getElem?_eq_getElem (l := L) (i := a + i) (by omega)
      have hd : L.drop (a + i) = L[a + i]'(by omega) :: L.drop (a + i + 1) := List.drop_eq_getElem_cons (by omega)
      obtain ⟨x0, x1⟩ := HY.out _ (List.getElem_mem (l := L) (n := a + i) (by omega))
      have hr' := hr.out
      rw [hd] at hr'
      generalize L[a + i]'(by omega) = x at hx hr' x0 x1
      obtain ⟨ad, rfl, hcell⟩ := HB.out.resolve_left (fun e => by subst e; simp at hM; omega)
      have c1 := hcell (a + i) x hx
      have hcase := rd_cons R hr'
      have hij : (i : Int) < k := by omega
      have hlen : (a : Int) + i < a + k := by omega
      clear hr' hcell hd hx hr
      have fits := fun h9 => round_fits s x i i9 s0 s1 x0 x1 h9
      obtain ⟨p0, p1⟩ := pow_in i i9
      obtain ⟨P, hP⟩ : ∃ P, (128 : Int) ^ i = P := ⟨_, rfl⟩
      have HP := Lib.hid hP
      have pS : (128 : Int) ^ (i + 1) = P * 128 := by rw [Int.pow_succ, hP]
      have HPS := Lib.hid pS
      rw [pS] at fits
      rw [hP] at p0 p1 hcase fits s1 ⊢
      clear hP pS
      have FT := Lib.hid fits
      clear fits
      rcases hcase with ⟨e9, h1, rfl⟩ | ⟨h9, hm, hr2⟩ | ⟨h9, hm, rfl, hz, rfl⟩ | ⟨h9, hm, hz, rfl⟩
      · have e9' : ((i : Int) == 9) = true := by simp; omega
        clear e9
        go_wp2
        go_ret3
        exact ⟨rfl, rfl⟩
      · have hi9 : i ≠ 9 := fun e => h9 ⟨e, by omega⟩
        have hi9' : ((i : Int) == 9) = false := by simp; omega
        obtain ⟨f0, f1, f2⟩ := FT.out h9
        obtain ⟨q, hq⟩ : ∃ q, x % 128 * P = q := ⟨_, rfl⟩
        rw [hq] at f0 f1 f2 hr2
        have q0 : 0 ≤ q := by rw [← hq]; exact Int.mul_nonneg (by omega) (by omega)
        have HQ := Lib.hid hq
        have p8 : P * 128 ≤ 9223372036854775808 := by rw [← HPS.out]; exact (pow_in (i + 1) (by omega)).2
        have e1 : IntKind.u64.wrap (x % 128 * P) = q := by rw [hq, IntKind.wrap_u64]; omega
        have e2 : IntKind.u64.wrap (s + q) = s + q := by rw [IntKind.wrap_u64]; omega
        have e3 : IntKind.u64.wrap (P * 128) = P * 128 := by rw [IntKind.wrap_u64]; omega
        have F := Lib.hid (And.intro f1 f2)
        have H2 := Lib.hid hr2
        clear h9 f0 f1 f2 hr2 s0 s1 hq
        go_wp2
        go_round
        case rel => exact ⟨i + 1, s + q, by omega, by omega, by go_num, int_eq HPS.out.symm, rfl, F.out.1, by rw [HPS.out]; exact F.out.2, H2⟩
        case measure => simp [intOf]; omega
      · have hi0 : decide (0 < (i : Int)) = true := by simp; omega
        have hj : Hid (i ≤ 9) := Lib.hid i9
        clear h9
        go_wp2
        all_goals (go_ret3; exact ⟨rfl, rfl⟩)
      · obtain ⟨f0, f1, f2⟩ := FT.out h9
        obtain ⟨q, hq⟩ : ∃ q, x % 128 * P = q := ⟨_, rfl⟩
        rw [hq] at f0 f1 f2
        have q0 : 0 ≤ q := by rw [← hq]; exact Int.mul_nonneg (by omega) (by omega)
        have e1 : IntKind.u64.wrap (x % 128 * P) = q := by rw [hq, IntKind.wrap_u64]; omega
        have hS : s + q ≤ 18446744073709551615 := by
          by_cases e9 : i = 9
          · have e : P = 9223372036854775808 := by rw [← HP.out, e9]; decide
            subst e
            omega
          · have : P * 128 ≤ 9223372036854775808 := by rw [← HPS.out]; exact (pow_in (i + 1) (by omega)).2
            omega
        have e2 : IntKind.u64.wrap (s + q) = s + q := by rw [IntKind.wrap_u64]; omega
        have HQ := Lib.hid hq
        by_cases e9 : i = 9
        · have e9' : ((i : Int) == 9) = true := by simp; omega
          have hx1 : decide (1 < x) = false := by simp; omega
          have hx0 : (x == 0) = false := by simp; omega
          clear e9 h9 hz hq f0 f1 f2 s0 s1
          go_wp2
          go_ret3
          exact ⟨by simp [Ans, ansP, HQ.out]; omega, rfl⟩
        · have e9' : ((i : Int) == 9) = false := by simp; omega
          by_cases x00 : x = 0
          · have hi0 : i = 0 := by omega
            have hx0 : (x == 0) = true := by simpa using x00
            have hI := Lib.hid hi0
            clear h9 hz e9 hi0 x00 hq f0 f1 f2 s0 s1
            go_wp2
            all_goals first
              | (exfalso; have := hI.out; omega)
              | (go_ret3; exact ⟨by simp [Ans, ansP, HQ.out]; omega, rfl⟩)
          · have hx0 : (x == 0) = false := by simp; omega
            clear e9 h9 hz x00 hq f0 f1 f2 s0 s1
            go_wp2
            go_ret3
            exact ⟨by simp [Ans, ansP, HQ.out]; omega, rfl⟩
    · obtain rfl : i = k := by omega
      have hd : L.drop (a + i) = [] := List.drop_of_length_le (by have := HK.out; omega)
      have hr' := hr.out
      rw [hd] at hr'
      obtain rfl : (0, 0, 10) = R := hr'
      go_wp2
      go_ret3
      exact ⟨rfl, rfl⟩
theorem uint_any (A : Option Addr) (L : List Int) (n c : Nat) (at_ : Int) (w : World) (h : In w A L n c) :
    Calls Try.prog 40 #[.slice A n c, .int .i64 at_] w fun e w' => e = Ans (uintP L at_) ∧ w = w' := by
  by_cases g : at_ < 0 ∨ (n : Int) < at_
  · exact uint_out A L n c at_ w h.len (by have := h.cap; have := h.top; omega) g
  · obtain ⟨a, rfl⟩ := Int.eq_ofNat_of_zero_le (a := at_) (by omega)
    obtain ⟨k, rfl⟩ : ∃ k, n = a + k := ⟨n - a, by omega⟩
    exact uint_in A L a k c w h.len h.cap h.top h.bys h.byt
theorem uintR_any (A : Option Addr) (L : List Int) (n c : Nat) (at_ : Int) (w : World) (h : In w A L n c) :
    Calls Try.prog 28 #[.slice A n c, .int .i64 at_] w fun e w' => e = Ans (uintP L at_) ∧ w = w' := by
  by_cases g : at_ < 0 ∨ (n : Int) < at_
  · exact uintR_out A L n c at_ w h.len (by have := h.cap; have := h.top; omega) g
  · obtain ⟨a, rfl⟩ := Int.eq_ofNat_of_zero_le (a := at_) (by omega)
    obtain ⟨k, rfl⟩ : ∃ k, n = a + k := ⟨n - a, by omega⟩
    exact uintR_in A L a k c w h.len h.cap h.top h.bys h.byt

end Go.Proofs.Ytimonpoeieenpaa
