/-
  What an amount's text is, said once: and what the document's own text of it is.
-/
import Derived.Test.YtefkabkncmflpaaDoorWkD
import Derived.Test.YtefkabkncmflpaaDoorFmt
import Derived.Test.YtefkabkncmflpaaDoorWakes
namespace Go.Proofs.YtefkabkncmflpaaDoor
open Go.RowKit

/-- An amount's text: its sign, its whole, a point, two digits. -/
def textOf (v : Int) : List UInt8 :=
  (if v < 0 then [45] else []) ++ (Lib.decDigits ((size v).toNat / 100) ++ [46, UInt8.ofNat (48 + (size v).toNat / 10 % 10), UInt8.ofNat (48 + (size v).toNat % 10)])

/-- At least three digits. -/
def pad3 (s : List UInt8) : List UInt8 := List.replicate (3 - s.length) 48 ++ s

theorem pad3_more (s : List UInt8) (h : s.length < 3) : pad3 (48 :: s) = pad3 s := by
  unfold pad3
  rw [List.length_cons, show 3 - s.length = (3 - (s.length + 1)) + 1 by omega, List.replicate_succ']
  simp
theorem pad3_done (s : List UInt8) (h : ¬ s.length < 3) : pad3 s = s := by
  unfold pad3
  rw [show 3 - s.length = 0 by omega]
  rfl

theorem decDigits_step {u : Nat} (h : ¬ u < 10) : Lib.decDigits u = Lib.decDigits (u / 10) ++ [UInt8.ofNat (48 + u % 10)] := by
  rw [Lib.decDigits, dif_neg h]

theorem pad3_dec (u : Nat) : pad3 (Lib.decDigits u) = Lib.decDigits (u / 100) ++ [UInt8.ofNat (48 + u / 10 % 10), UInt8.ofNat (48 + u % 10)] := by
  by_cases h1 : u < 10
  · rw [Lib.decDigits_one h1, show u / 100 = 0 by omega, Lib.decDigits_one (by omega), show u / 10 % 10 = 0 by omega, Nat.mod_eq_of_lt h1]
    rfl
  · by_cases h2 : u < 100
    · rw [Lib.decDigits_two h1 h2, show u / 100 = 0 by omega, Lib.decDigits_one (by omega), show u / 10 % 10 = u / 10 by omega]
      rfl
    · rw [decDigits_step h1, decDigits_step (u := u / 10) (by omega), show u / 10 / 10 = u / 100 by omega]
      rw [pad3_done]
      · simp
      · simp [Lib.decDigits_length]
        have := Lib.nDigits_pos (u / 100)
        omega

theorem pad3_len (u : Nat) (h : u < 18446744073709551616) : 3 ≤ (pad3 (Lib.decDigits u)).length ∧ (pad3 (Lib.decDigits u)).length ≤ 22 := by
  rw [pad3_dec]
  simp [Lib.decDigits_length]
  have := Lib.nDigits_pos (u / 100)
  have := Lib.nDigits_le20 (u / 100) (by omega)
  omega

/-- The document's text, cut from the padded numeral. -/
theorem text_cut (v : Int) : (if v < 0 then [45] else []) ++ ((pad3 (Lib.decDigits (size v).toNat)).take ((pad3 (Lib.decDigits (size v).toNat)).length - 2) ++ [46] ++ (pad3 (Lib.decDigits (size v).toNat)).drop ((pad3 (Lib.decDigits (size v).toNat)).length - 2)) = textOf v := by
  rw [pad3_dec]
  unfold textOf
  simp

theorem bytes_cut (s : List UInt8) (n : Nat) : (ByteArray.mk s.toArray).extract 0 n ++ ByteArray.mk #[46] ++ (ByteArray.mk s.toArray).extract n s.length = ByteArray.mk (s.take n ++ [46] ++ s.drop n).toArray := by
  apply ByteArray.ext
  simp [ByteArray.data_append, ByteArray.data_extract]
  exact List.take_of_length_le (by simp)

theorem bytes_app (s t : List UInt8) : ByteArray.mk s.toArray ++ ByteArray.mk t.toArray = ByteArray.mk (s ++ t).toArray := by
  apply ByteArray.ext
  simp [ByteArray.data_append]

set_option maxRecDepth 100000 in
set_option maxHeartbeats 1000000 in
theorem refText_any (v : Int) (w : World) (h0 : -9223372036854775808 ≤ v) (h1 : v ≤ 9223372036854775807) :
    Calls Tryd.prog 28 #[.int .i64 v] w fun e w' => e = .returned (.string ⟨(textOf v).toArray⟩) ∧ Below w.heap.size w w' := by
  have hs : 0 ≤ size v ∧ size v ≤ 9223372036854775808 := by unfold size; omega
  have hu : (size v).toNat < 18446744073709551616 := by omega
  go_enter Tryd.func28, Tryd.ntmps28
  go_wp2_with (first | (go_at_call 35; refine (refSize_any v _ h0 h1).mono ?_; rintro e w1 ⟨rfl, hb1⟩) | (go_at_call 50; refine (digits_any _ _ (ofD_in _)).mono ?_; rintro e w2 ⟨rfl, hb2⟩))
  rw [ofD_val _ hs.1 (by omega)]
  have hb := Lib.hid (below_then hb1 hb2)
  have HS := Lib.hid hs
  have hl0 := pad3_len _ hu
  have TC := Lib.hid (text_cut v)
  obtain ⟨p, hp⟩ : ∃ p, pad3 (Lib.decDigits (size v).toNat) = p := ⟨_, rfl⟩
  rw [hp] at TC hl0
  obtain ⟨hl3, hl22⟩ := hl0
  go_loop [3] (fun t3 => ∃ s : List UInt8, t3 = .string ⟨s.toArray⟩ ∧ Hid (pad3 s = p)) (fun t3 => 3 - strLen t3)
  case atStart => exact ⟨_, rfl, hp⟩
  case round =>
    obtain ⟨s, rfl, hs3⟩ := hrel
    by_cases hlt : s.length < 3
    · have h3 : (s.length : Int) < 3 := by omega
      go_wp2_with fail
      go_round
      case rel => exact ⟨48 :: s, by first | rfl | simp, (pad3_more s hlt).trans hs3⟩
      case measure => simp [strLen]; omega
    · have hp3 : s = p := (pad3_done s hlt).symm.trans hs3
      subst hp3
      have h3 : ¬ (s.length : Int) < 3 := by omega
      go_wp2_with fail
      go_region
      rw [bytes_cut]
      by_cases hv : v < 0
      · rw [if_pos hv] at TC
        go_wp2_with fail
        go_ret
        exact ⟨congrArg (fun b => Ending.returned (Value.string b)) ((bytes_app [45] _).trans (by rw [← TC.out]; simp)), hb.out.drew⟩
      · rw [if_neg hv] at TC
        go_wp2_with fail
        go_ret
        exact ⟨by rw [← TC.out]; first | rfl | simp, hb.out.drew⟩

theorem fmt_any (u : Nat) (w : World) (hu : u < 18446744073709551616) (htab : Lib.TabIs Tryd.prog w "internal/strconv.uint64pow10" .u64 Lib.pow10Tab) :
    Calls Tryd.prog 49 #[.int .u64 u, .int .i64 10] w fun e w' => e = .returned (.string ⟨(Lib.decDigits u).toArray⟩) ∧ Below w.heap.size w w' := by
  by_cases h : u < 100
  · refine (fmt_small u w h).mono ?_
    rintro e w' ⟨rfl, rfl⟩
    exact ⟨rfl, Below.refl _ _⟩
  · exact fmt_big u w (by omega) hu htab

theorem ofNat_48 (a : Nat) : 48 + UInt8.ofNat a = UInt8.ofNat (48 + a) := by rw [UInt8.ofNat_add]; rfl
theorem text_data {v : Int} {S k p a b : Nat} (hS : size v = S) (hk : S / 100 = k) (hp : S % 100 = p) (ha : p / 10 = a) (hb : p % 10 = b) :
    textOf v = (if v < 0 then [45] else []) ++ (Lib.decDigits k ++ [46, 48 + UInt8.ofNat a, 48 + UInt8.ofNat b]) := by
  unfold textOf
  rw [hS, Int.toNat_natCast, hk, show S / 10 % 10 = a by omega, show S % 10 = b by omega, ofNat_48, ofNat_48]

theorem conv_kept {W w1 : World} {x y : Int} (hb : Below ((W.alloc (.cells #[.int .u8 x, .int .u8 y] 5)).drew).heap.size ((W.alloc (.cells #[.int .u8 x, .int .u8 y] 5)).drew) w1) :
    (convert 77 9 (.slice (some ⟨W.heap.size, 0, none⟩) 2 2)).run Tryd.prog w1 = .ok (.string ⟨#[UInt8.ofNat x.toNat, UInt8.ofNat y.toNat]⟩) w1 := by
  refine conv_two w1 W _ x y ?_ ?_
  · rw [hb.cell (by simp [World.drew])]; simp [go_sem]
  · rw [hb.cell (by simp [World.drew])]; simp [go_sem]

set_option maxRecDepth 100000 in
set_option maxHeartbeats 1000000 in
theorem text_any (v : Int) (w : World) (h0 : -9223372036854775808 ≤ v) (h1 : v ≤ 9223372036854775807) (htab : Lib.TabIs Tryd.prog w "internal/strconv.uint64pow10" .u64 Lib.pow10Tab) :
    Calls Tryd.prog 27 #[.int .i64 v] w fun e w' => e = .returned (.string ⟨(textOf v).toArray⟩) ∧ Below w.heap.size w w' := by
  obtain ⟨S, hS⟩ : ∃ S : Nat, size v = S := ⟨v.natAbs, rfl⟩
  have hs : S ≤ 9223372036854775808 := by unfold size at hS; omega
  obtain ⟨k, hk⟩ : ∃ k, S / 100 = k := ⟨_, rfl⟩
  obtain ⟨p, hp⟩ : ∃ p, S % 100 = p := ⟨_, rfl⟩
  have HV := Lib.hid (And.intro hS (And.intro hk hp))
  have e1 : (S : Int) / 100 = k := by omega
  have e2 : (S : Int) % 100 = p := by omega
  have k1 : k < 18446744073709551616 := by omega
  have p1 : (p : Int) < 100 := by omega
  obtain ⟨a, ha⟩ : ∃ a, p / 10 = a := ⟨_, rfl⟩
  obtain ⟨b, hb⟩ : ∃ b, p % 10 = b := ⟨_, rfl⟩
  have HA := Lib.hid (And.intro ha hb)
  have e3 : (p : Int) / 10 = a := by omega
  have e4 : (p : Int) % 10 = b := by omega
  have a9 : a < 10 := by omega
  have b9 : b < 10 := by omega
  have e5 : IntKind.u8.wrap (a : Int) = a := by rw [IntKind.wrap_u8]; omega
  have e6 : IntKind.u8.wrap (b : Int) = b := by rw [IntKind.wrap_u8]; omega
  have e7 : IntKind.u8.wrap (48 + (a : Int)) = 48 + a := by rw [IntKind.wrap_u8]; omega
  have e8 : IntKind.u8.wrap (48 + (b : Int)) = 48 + b := by rw [IntKind.wrap_u8]; omega
  have dl : (Lib.decDigits k).length ≤ 20 := by rw [Lib.decDigits_length]; exact Lib.nDigits_le20 k k1
  clear ha hb a9 b9
  have SZ : ∀ w, Calls Tryd.prog 31 #[.int .i64 v] w fun e w' => e = .returned (.int .u64 S) ∧ w = w' := fun w => by rw [← hS]; exact size_any v w h0 h1
  have SZ := Lib.hid SZ
  clear hS hk hp
  go_enter Tryd.func27, Tryd.ntmps27
  go_upto_region 5 with (first | (go_at_call 31; refine (SZ.out _).mono ?_; rintro e w' ⟨rfl, rfl⟩))
  all_goals
    rw [e2]
    clear e1 e2 SZ
    have kc := conv_drew
    have kd := conv_new
    go_region_with (go_at_call 49; refine (fmt_any k _ k1 (by first | exact htab | exact Lib.tabIs_alloc htab _)).mono ?_; rintro e w1 ⟨rfl, hb1⟩; try have kx := conv_kept hb1)
  all_goals
    go_wp2
    try simp only [Act.put, List.getElem_toArray, List.getElem_cons_zero, List.getElem_cons_succ]
    go_ret
    have TX := text_data HV.out.1 HV.out.2.1 HV.out.2.2 HA.out.1 HA.out.2
    first | rw [if_pos (by assumption)] at TX | rw [if_neg (Int.not_lt.mpr (by assumption))] at TX
    refine ⟨congrArg (fun b => Ending.returned (Value.string b)) (a₂ := ByteArray.mk (textOf v).toArray) ?_, ?_⟩
    · rw [TX]
      apply ByteArray.ext
      simp [ByteArray.data_append, HA.out.2]
    repeat (first | exact Below.refl _ _ | exact (Below.refl _ _).drew | refine below_then ?_ (by assumption) | refine below_alloc ?_ _ | refine Below.drew ?_)

end Go.Proofs.YtefkabkncmflpaaDoor
