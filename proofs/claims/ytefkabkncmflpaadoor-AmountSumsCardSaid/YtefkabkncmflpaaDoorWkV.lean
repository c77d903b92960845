/-
  Walks: a text is read.
-/
import Derived.Test.YtefkabkncmflpaaDoorWkC
namespace Go.Proofs.YtefkabkncmflpaaDoor
open Go.RowKit

set_option maxHeartbeats 400000 in
theorem cut_yes (s : ByteArray) (i : Nat) (w : World) (hi : i < s.size) (hs : s.size ≤ 9223372036854775807) (hx : Lib.indexByte s.data.toList 46 = i) :
    Calls Tryd.prog 56 #[.string s, .string ⟨#[46]⟩] w fun e w' => e = .returned (.tuple #[.string (s.extract 0 i), .string (s.extract (i + 1) s.size), .bool true]) ∧ ∃ n, w' = w.drewN n := by
  have hii : (i : Int) < s.size := by omega
  have hsi : (s.size : Int) ≤ 9223372036854775807 := by omega
  have HX := Lib.hid hx
  clear hx
  go_enter Tryd.func56, Tryd.ntmps56
  go_wp2_with (go_at_call 63; refine (Tryd.stringslite_Index_one s 46 _).mono ?_; rw [HX.out]; rintro e w' ⟨rfl, hw⟩; subst hw)
  have e1 : IntKind.i64.wrap ((i : Int) + 1) = (i : Int) + 1 := IntWalk.i64_in _ (by omega)
  have e2 : (0 : Int) ≤ (i : Int) + 1 := by omega
  have e3 : ((i : Int) + 1).toNat = i + 1 := by omega
  have e4 : (i : Int) + 1 ≤ s.size := by omega
  go_quiet (fail)
  go_wp2
  go_ret3
  exact ⟨rfl, nq, rfl⟩

set_option maxHeartbeats 400000 in
theorem cut_no (s : ByteArray) (w : World) (hx : Lib.indexByte s.data.toList 46 = -1) :
    Calls Tryd.prog 56 #[.string s, .string ⟨#[46]⟩] w fun e w' => e = .returned (.tuple #[.string s, .string ⟨#[]⟩, .bool false]) ∧ w = w' := by
  have HX := Lib.hid hx
  clear hx
  go_enter Tryd.func56, Tryd.ntmps56
  go_wp2_with (go_at_call 63; refine (Tryd.stringslite_Index_one s 46 _).mono ?_; rw [HX.out]; rintro e w' ⟨rfl, hw⟩; subst hw)
  go_ret3
  exact ⟨rfl, rfl⟩

set_option maxHeartbeats 400000 in
theorem cutDot_yes (s : ByteArray) (i : Nat) (w : World) (hi : i < s.size) (hs : s.size ≤ 9223372036854775807) (hx : Lib.indexByte s.data.toList 46 = i) :
    Calls Tryd.prog 43 #[.string s, .string ⟨#[46]⟩] w fun e w' => e = .returned (.tuple #[.string (s.extract 0 i), .string (s.extract (i + 1) s.size), .bool true]) ∧ ∃ n, w' = w.drewN n := by
  have H := Lib.hid (fun w => cut_yes s i w hi hs hx)
  clear hx
  go_enter Tryd.func43, Tryd.ntmps43
  go_wp2_with (go_at_call 56; refine (H.out _).mono ?_; rintro e w' ⟨rfl, n, rfl⟩)
  go_ret3
  exact ⟨rfl, n, rfl⟩

set_option maxHeartbeats 400000 in
theorem cutDot_no (s : ByteArray) (w : World) (hx : Lib.indexByte s.data.toList 46 = -1) :
    Calls Tryd.prog 43 #[.string s, .string ⟨#[46]⟩] w fun e w' => e = .returned (.tuple #[.string s, .string ⟨#[]⟩, .bool false]) ∧ w = w' := by
  have H := Lib.hid (fun w => cut_no s w hx)
  clear hx
  go_enter Tryd.func43, Tryd.ntmps43
  go_wp2_with (go_at_call 56; refine (H.out _).mono ?_; rintro e w' ⟨rfl, rfl⟩)
  go_ret3
  exact ⟨rfl, rfl⟩

/-! digits -/
def isDig (c : UInt8) : Bool := 48 ≤ c && c ≤ 57
def numTo (s : List UInt8) : Nat → Int
  | 0 => 0
  | k + 1 => numTo s k * 10 + ((s.getD k 0).toNat - 48 : Int)

set_option maxHeartbeats 400000 in
theorem allDigits_yes (s : ByteArray) (w : World) (hs : s.size ≤ 9223372036854775807) (h : ∀ i (hi : i < s.size), 48 ≤ (s[i].toNat : Int) ∧ (s[i].toNat : Int) ≤ 57) :
    Calls Tryd.prog 45 #[.string s] w fun e w' => e = .returned (.bool true) ∧ w = w' := by
  have H := Lib.hid h
  clear h
  go_enter Tryd.func45, Tryd.ntmps45
  go_wp2_with fail
  go_loop [6] (fun t6 => ∃ k : Nat, k ≤ s.size ∧ t6 = .int .i64 k) (fun t6 => s.size - (intOf t6).toNat)
  case atStart => exact ⟨0, by omega, rfl⟩
  case round =>
    obtain ⟨k, hk, rfl⟩ := hrel
    by_cases hlt : k < s.size
    · obtain ⟨h1, h2⟩ := H.out k hlt
      have hki : (k : Int) < s.size := by omega
      go_wp2
      go_round
      case rel => exact ⟨k + 1, by omega, by go_num⟩
      case measure => simp [intOf]; omega
    · obtain rfl : k = s.size := by omega
      go_wp2
      go_ret
      exact ⟨rfl, rfl⟩

theorem numTo_bd (s : List UInt8) (n : Nat) (h : ∀ i, i < n → 48 ≤ ((s.getD i 0).toNat : Int) ∧ ((s.getD i 0).toNat : Int) ≤ 57) (k : Nat) (hk : k ≤ n) : 0 ≤ numTo s k ∧ numTo s k < 10 ^ k := by
  induction k with
  | zero => simp [numTo]
  | succ k ih =>
    have := ih (by omega)
    have := h k (by omega)
    rw [numTo, Int.pow_succ]
    generalize (10 : Int) ^ k = P at *
    omega
theorem getD_at (s : ByteArray) (i : Nat) (h : i < s.size) : s.data.toList.getD i 0 = s[i] := by
  rw [List.getD_eq_getElem?_getD, List.getElem?_eq_getElem (by simpa using h)]
  rfl

set_option maxHeartbeats 400000 in
theorem number_any (s : ByteArray) (w : World) (hs : s.size ≤ 19) (h : ∀ i (hi : i < s.size), 48 ≤ (s[i].toNat : Int) ∧ (s[i].toNat : Int) ≤ 57) :
    Calls Tryd.prog 46 #[.string s] w fun e w' => e = .returned (.int .u64 (numTo s.data.toList s.size)) ∧ w = w' := by
  have H := Lib.hid h
  have HN := Lib.hid (numTo_bd s.data.toList s.size (fun i hi => by rw [getD_at s i hi]; exact h i hi))
  clear h
  go_enter Tryd.func46, Tryd.ntmps46
  go_wp2_with fail
  go_loop [3, 7] (fun t3 t7 => ∃ k : Nat, k ≤ s.size ∧ t3 = .int .u64 (numTo s.data.toList k) ∧ t7 = .int .i64 k) (fun _ t7 => s.size - (intOf t7).toNat)
  case atStart => exact ⟨0, by omega, rfl, rfl⟩
  case round =>
    obtain ⟨k, hk, rfl, rfl⟩ := hrel
    by_cases hlt : k < s.size
    · obtain ⟨h1, h2⟩ := H.out k hlt
      obtain ⟨n0, n1⟩ := HN.out k hk
      have n2 : numTo s.data.toList k < 1000000000000000000 := by
        have : (10 : Int) ^ k ≤ 10 ^ 18 := by
          have := Nat.pow_le_pow_right (n := 10) (by omega) (show k ≤ 18 by omega)
          exact_mod_cast this
        omega
      clear n1
      have HS := Lib.hid (show numTo s.data.toList (k + 1) = numTo s.data.toList k * 10 + ((s[k].toNat : Int) - 48) by rw [numTo, getD_at s k hlt])
      generalize numTo s.data.toList k = x at *
      have hki : (k : Int) < s.size := by omega
      go_wp2
      go_round
      case rel => exact ⟨k + 1, by omega, by rw [HS.out], by go_num⟩
      case measure => simp [intOf]; omega
    · obtain rfl : k = s.size := by omega
      go_wp2
      go_ret
      exact ⟨rfl, rfl⟩

set_option maxHeartbeats 400000 in
theorem isWhole_nought (w : World) : Calls Tryd.prog 44 #[.string ⟨#[48]⟩] w fun e w' => e = .returned (.bool true) ∧ w = w' := by
  have H := Lib.hid (fun w => allDigits_yes ⟨#[48]⟩ w (by decide) (by decide))
  go_enter Tryd.func44, Tryd.ntmps44
  go_wp2_with (go_at_call 45; refine (H.out _).mono ?_; rintro e w' ⟨rfl, rfl⟩)
  go_ret
  exact ⟨rfl, rfl⟩

theorem prefix_five (w : World) : Calls Tryd.prog 42 #[.string ⟨#[45, 48, 46, 48, 53]⟩, .string ⟨#[45]⟩] w fun e w' => e = .returned (.tuple #[.string ⟨#[48, 46, 48, 53]⟩, .bool true]) ∧ w = w' :=
  (Tryd.strings_CutPrefix ⟨#[45, 48, 46, 48, 53]⟩ ⟨#[45]⟩ w).mono fun e w' h => ⟨by rw [h.1]; rfl, h.2.symm⟩
theorem cut_five (w : World) : Calls Tryd.prog 43 #[.string ⟨#[48, 46, 48, 53]⟩, .string ⟨#[46]⟩] w fun e w' => e = .returned (.tuple #[.string ⟨#[48]⟩, .string ⟨#[48, 53]⟩, .bool true]) ∧ ∃ n, w' = w.drewN n :=
  (cutDot_yes ⟨#[48, 46, 48, 53]⟩ 1 w (by decide) (by decide) (by decide)).mono fun e w' h => ⟨by rw [h.1]; rfl, h.2⟩
theorem digits_five (w : World) : Calls Tryd.prog 45 #[.string ⟨#[48, 53]⟩] w fun e w' => e = .returned (.bool true) ∧ w = w' := allDigits_yes ⟨#[48, 53]⟩ w (by decide) (by decide)
theorem number_five (w : World) : Calls Tryd.prog 46 #[.string (⟨#[48]⟩ ++ ⟨#[48, 53]⟩)] w fun e w' => e = .returned (.int .u64 5) ∧ w = w' :=
  (number_any ⟨#[48, 48, 53]⟩ w (by decide) (by decide)).mono fun e w' h => ⟨by rw [h.1]; rfl, h.2⟩

set_option maxHeartbeats 400000 in
theorem read_five (w : World) : Calls Tryd.prog 25 #[.string ⟨#[45, 48, 46, 48, 53]⟩] w fun e w' => e = .returned (.tuple #[.int .i64 (-5), .int .i64 0]) ∧ Below w.heap.size w w' := by
  go_enter Tryd.func25, Tryd.ntmps25
  go_wp2_with (first | (go_at_call 42; refine (prefix_five _).mono ?_; rintro e w' ⟨rfl, rfl⟩) | (go_at_call 43; refine (cut_five _).mono ?_; rintro e w' ⟨rfl, n, rfl⟩) | (go_at_call 44; refine (isWhole_nought _).mono ?_; rintro e w' ⟨rfl, rfl⟩) | (go_at_call 45; refine (digits_five _).mono ?_; rintro e w' ⟨rfl, rfl⟩) | (go_at_call 46; refine (number_five _).mono ?_; rintro e w' ⟨rfl, rfl⟩) | (go_at_call 47; refine (signed_neg 5 _ (by omega) (by omega)).mono ?_; rintro e w' ⟨rfl, rfl⟩))
  go_ret2
  exact ⟨rfl, drewN_below _ _ _⟩

end Go.Proofs.YtefkabkncmflpaaDoor
