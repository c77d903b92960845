/-
  Walks: is it a file's name; what is asked ahead of any file.
-/
import Derived.Test.YtjacjafpeajhaaaPgB
import Derived.Test.YtjacjafpeajhaaaLib
namespace Go.Proofs.Ytjacjafpeajhaaa
open Go.RowKit
open Go.Maps

set_option maxHeartbeats 2000000 in
theorem isLetter_any (x : Nat) (w : World) (hx : x < 256) :
    Calls Try.prog 63 #[.int .u8 (x : Int)] w fun e w' => e = .returned (.bool (okB x)) ∧ w = w' := by
  obtain ⟨b, hb⟩ : ∃ b, okB x = b := ⟨_, rfl⟩
  rw [hb]
  have HB := Lib.hid hb
  clear hb
  rcases okB_ways x with ⟨h1, h2, h3⟩ | ⟨h1, h2, h4, h3⟩ | ⟨h1, h3⟩ | ⟨h1, h3⟩ | ⟨h1, h2, h3⟩ | ⟨h1, h2, h4, h3⟩ | ⟨h1, h2, h4, h3⟩
  · have HV : Hid (b = true) := Lib.hid (HB.out.symm.trans h3)
    clear h3
    go_enter Try.func63, Try.ntmps63
    go_wp2_with fail
    go_ret
    rw [HV.out]
    exact ⟨rfl, rfl⟩
  · have HV : Hid (b = true) := Lib.hid (HB.out.symm.trans h3)
    clear h3
    go_enter Try.func63, Try.ntmps63
    go_wp2_with fail
    go_ret
    rw [HV.out]
    exact ⟨rfl, rfl⟩
  · have HV : Hid (b = true) := Lib.hid (HB.out.symm.trans h3)
    clear h3
    subst h1
    go_enter Try.func63, Try.ntmps63
    go_wp2_with fail
    go_ret
    rw [HV.out]
    exact ⟨rfl, rfl⟩
  · have HV : Hid (b = true) := Lib.hid (HB.out.symm.trans h3)
    clear h3
    subst h1
    go_enter Try.func63, Try.ntmps63
    go_wp2_with fail
    go_ret
    rw [HV.out]
    exact ⟨rfl, rfl⟩
  · have HV : Hid (b = false) := Lib.hid (HB.out.symm.trans h3)
    have d1 : (decide ((x : Int) ≤ 122)) = false := by simp; omega
    have d2 : (decide ((x : Int) ≤ 57)) = false := by simp; omega
    have d3 : ((x : Int) == 46) = false := by simp; omega
    have d4 : ((x : Int) == 45) = false := by simp; omega
    clear h3
    go_enter Try.func63, Try.ntmps63
    go_wp2_with fail
    go_ret
    rw [HV.out]
    exact ⟨rfl, rfl⟩
  · have HV : Hid (b = false) := Lib.hid (HB.out.symm.trans h3)
    have d2 : (decide ((x : Int) ≤ 57)) = false := by simp; omega
    have d3 : ((x : Int) == 46) = false := by simp; omega
    have d4 : ((x : Int) == 45) = false := by simp; omega
    clear h3
    go_enter Try.func63, Try.ntmps63
    go_wp2_with fail
    go_ret
    rw [HV.out]
    exact ⟨rfl, rfl⟩
  · have HV : Hid (b = false) := Lib.hid (HB.out.symm.trans h3)
    have d3 : ((x : Int) == 46) = false := by simp; omega
    have d4 : ((x : Int) == 45) = false := by simp; omega
    clear h3
    go_enter Try.func63, Try.ntmps63
    go_wp2_with fail
    go_ret
    rw [HV.out]
    exact ⟨rfl, rfl⟩

set_option maxHeartbeats 2000000 in
theorem isName_any (s : ByteArray) (w : World) (hs : s.size ≤ 281474976710656) :
    Calls Try.prog 32 #[.string s] w fun e w' => e = .returned (.bool (okName s)) ∧ w = w' := by
  obtain ⟨b, hb⟩ : ∃ b, okName s = b := ⟨_, rfl⟩
  rw [hb]
  have HB := Lib.hid hb
  clear hb
  by_cases h1 : 1 ≤ s.size
  · have d0 : ((s.size : Int) == 0) = false := by simpa using (by omega : (s.size : Int) ≠ 0)
    by_cases h2 : s.size ≤ 32
    · have d1 : decide (32 < (s.size : Int)) = false := by simp; omega
      go_enter Try.func32, Try.ntmps32
      go_wp2_with fail
      go_loop [14] (fun t14 => ∃ k : Nat, k ≤ s.size ∧ t14 = .int .i64 k ∧ Hid (∀ (j : Nat) (x : Int), j < k → (nums s)[j]? = some x → okB x = true)) (fun t14 => s.size - (intOf t14).toNat)
      case atStart => exact ⟨0, by omega, rfl, Lib.hid (fun j x hj => by omega)⟩
      case round =>
        obtain ⟨k, hk, rfl, hf⟩ := hrel
        by_cases hlt : k < s.size
        · have HX := Lib.hid (nums_get s k hlt)
          obtain ⟨x, hx⟩ : ∃ x, s[k].toNat = x := ⟨_, rfl⟩
          have hlx : s[k].toNat < 256 := s[k].toNat_lt
          obtain ⟨v, hv⟩ : ∃ v, okB x = v := ⟨_, rfl⟩
          have HC := Lib.hid (isLetter_any s[k].toNat w hlx)
          rw [hx, hv] at HC
          have HXV := Lib.hid (And.intro hx hv)
          clear hlx
          cases v
          · have HV : Hid (b = false) := Lib.hid (by rw [← HB.out]; unfold okName; rw [all_not HX.out (by rw [HXV.out.1]; exact HXV.out.2)]; rfl)
            clear hv
            go_wp2_with (go_at_call 63; refine HC.out.mono ?_; rintro e w1 ⟨rfl, hw⟩; subst hw)
            go_ret
            rw [HV.out]
            exact ⟨rfl, rfl⟩
          · clear hv
            go_wp2_with (go_at_call 63; refine HC.out.mono ?_; rintro e w1 ⟨rfl, hw⟩; subst hw)
            go_round
            case rel => exact ⟨k + 1, by omega, by go_num, Lib.hid (fun j y hj hy => by
              by_cases e : j = k
              · subst e; rw [HX.out] at hy; injection hy with hy; rw [← hy, HXV.out.1]; exact HXV.out.2
              · exact hf.out j y (by omega) hy)⟩
            case measure => simp [intOf]; omega
        · obtain rfl : k = s.size := by omega
          have HV : Hid (b = true) := Lib.hid (by rw [← HB.out]; unfold okName; rw [all_upto (nums_len s) hf.out]; simp [h1, h2])
          go_wp2_with fail
          go_ret
          rw [HV.out]
          exact ⟨rfl, rfl⟩
    · have HV : Hid (b = false) := Lib.hid (by rw [← HB.out]; unfold okName; simp [h2])
      have d1 : decide (32 < (s.size : Int)) = true := by simp; omega
      go_enter Try.func32, Try.ntmps32
      go_wp2_with fail
      go_ret
      rw [HV.out]
      exact ⟨rfl, rfl⟩
  · have HV : Hid (b = false) := Lib.hid (by rw [← HB.out]; unfold okName; simp [h1])
    have d0 : ((s.size : Int) == 0) = true := by rw [beq_iff_eq]; omega
    go_enter Try.func32, Try.ntmps32
    go_wp2_with fail
    go_ret
    rw [HV.out]
    exact ⟨rfl, rfl⟩

end Go.Proofs.Ytjacjafpeajhaaa
