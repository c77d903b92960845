/-
  Walks: bytes that are read.
-/
import Derived.Test.YtbgolnaljmeneaaWkH
namespace Go.Proofs.Ytbgolnaljmeneaa
open Go.RowKit

/-- What a read of bytes answers. -/
def Got (w : World) (p : List Int × Int × Int) (e : Ending) (w' : World) : Prop :=
  ∃ A c, e = .returned (.tuple #[.slice A p.1.length c, .int .i64 p.2.1, .int .i64 p.2.2]) ∧ ((A = none ∧ p.1 = []) ∨ ∃ g, A = some ⟨g, 0, none⟩ ∧ Mine w' w.heap.size g c p.1) ∧ Below w.heap.size w w'
theorem got_none {w w' : World} {r : Int} {e : Ending} (h : e = .returned (.tuple #[.slice none 0 0, .int .i64 0, .int .i64 r]) ∧ w = w') : Got w ([], 0, r) e w' := by
  obtain ⟨rfl, rfl⟩ := h
  exact ⟨none, 0, rfl, .inl ⟨rfl, rfl⟩, Below.refl _ _⟩

set_option maxRecDepth 100000 in
theorem bytes_any (A : Option Addr) (L : List Int) (n c : Nat) (at_ most : Int) (w : World) (h : In w A L n c) (hl : n ≤ 281474976710656) (hm : most ≤ 9223372036854775807) :
    Calls Try.prog 19 #[.slice A n c, .int .i64 at_, .int .i64 most] w (Got w (bytesP L at_ most)) := by
  have HU := Lib.hid (uint_any A L n c at_ w h)
  have b := uintP_bd L at_ h.byt
  unfold bytesP
  unfold Ans at HU
  have HI := Lib.hid h
  have hL := h.len
  rw [hL] at b ⊢
  clear h
  generalize uintP L at_ = p at HU b ⊢
  obtain ⟨v, i, e⟩ := p
  simp only at HU b ⊢
  obtain ⟨b0, b1, b2, b3, -⟩ := b
  by_cases he : e = 0
  · have he' : (e != 0) = false := by simpa using he
    rw [if_neg (by simpa using he)]
    obtain ⟨b4, b5, b6⟩ := b2 he
    clear b2 b3 he
    by_cases h0 : most < 0
    · rw [if_pos (.inl h0)]
      clear hL
      go_enter Try.func19, Try.ntmps19
      go_wp2_with (go_at_call 17; refine HU.out.mono ?_; rintro e w1 ⟨rfl, rfl⟩)
      go_ret3
      exact got_none ⟨rfl, rfl⟩
    · have h0' : decide (most < 0) = false := by simpa using h0
      have e1 : IntKind.u64.wrap most = most := by rw [IntKind.wrap_u64]; omega
      by_cases h1 : most < v
      · rw [if_pos (.inr h1)]
        clear hL
        go_enter Try.func19, Try.ntmps19
        go_wp2_with (go_at_call 17; refine HU.out.mono ?_; rintro e w1 ⟨rfl, rfl⟩)
        go_ret3
        exact got_none ⟨rfl, rfl⟩
      · rw [if_neg (by omega)]
        have h1' : decide (most < v) = false := by simpa using h1
        have e2 : IntKind.u64.wrap ((n : Int) - i) = n - i := by rw [IntKind.wrap_u64]; omega
        by_cases h2 : (n : Int) - i < v
        · rw [if_pos h2]
          clear hL
          go_enter Try.func19, Try.ntmps19
          go_wp2_with (go_at_call 17; refine HU.out.mono ?_; rintro e w1 ⟨rfl, rfl⟩)
          go_ret3
          exact got_none ⟨rfl, rfl⟩
        · rw [if_neg h2]
          have h2' : decide ((n : Int) - i < v) = false := by simpa using h2
          obtain ⟨j, rfl⟩ := Int.eq_ofNat_of_zero_le (a := i) (by omega)
          obtain ⟨m, rfl⟩ := Int.eq_ofNat_of_zero_le b0
          have e3 : wrap64 (m : Int) = m := by unfold wrap64; omega
          obtain ⟨A', hsl, hb⟩ := slice_end HI.out.bys n j m c HI.out.len (by omega) HI.out.cap
          have HM : Hid (((L.drop j).take m).length = m) := Lib.hid (by simp; omega)
          have P1 := Lib.hid (pieces_one (c := m) HM.out hb)
          have HV := Lib.hid he'
          simp only [Int.toNat_natCast]
          generalize (L.drop j).take m = X at HM P1 ⊢
          have HX : Hid ([X].flatten.length ≤ 281474976710656) := Lib.hid (by have := HM.out; simp; omega)
          clear hL hb
          go_enter Try.func19, Try.ntmps19
          go_wp2_with (first
            | (go_at_call 17; refine HU.out.mono ?_; rintro e w1 ⟨rfl, rfl⟩)
            | (go_at_call 23; refine (joined_any _ 1 _ [X] _ rfl (by omega) P1.out HX.out).mono ?_; rintro e w2 hw; have hw' := hw.later (M := X) (Below.refl _ _) (by simp); obtain ⟨g2, c2, rfl, m2, b2⟩ := hw'; have M2 := Lib.hid m2; have B2 := Lib.hid b2; clear hw m2 b2))
          go_ret3
          refine ⟨some ⟨g2, 0, none⟩, c2, ?_, .inr ⟨g2, rfl, M2.out⟩, B2.out⟩
          rfl
  · have he' : (e != 0) = true := by simpa using he
    rw [if_pos (by simpa using he)]
    clear he b2 b3 hL
    go_enter Try.func19, Try.ntmps19
    go_wp2_with (go_at_call 17; refine HU.out.mono ?_; rintro e w1 ⟨rfl, rfl⟩)
    go_ret3
    exact got_none ⟨rfl, rfl⟩

set_option maxRecDepth 100000 in
theorem bytesR_any (A : Option Addr) (L : List Int) (n c : Nat) (at_ most : Int) (w : World) (h : In w A L n c) (hl : n ≤ 281474976710656) (hm : most ≤ 9223372036854775807) :
    Calls Try.prog 22 #[.slice A n c, .int .i64 at_, .int .i64 most] w (Got w (bytesP L at_ most)) := by
  have HU := Lib.hid (uintR_any A L n c at_ w h)
  have b := uintP_bd L at_ h.byt
  unfold bytesP
  unfold Ans at HU
  have HI := Lib.hid h
  have hL := h.len
  rw [hL] at b ⊢
  clear h
  generalize uintP L at_ = p at HU b ⊢
  obtain ⟨v, i, e⟩ := p
  simp only at HU b ⊢
  obtain ⟨b0, b1, b2, b3, -⟩ := b
  by_cases he : e = 0
  · have he' : (e != 0) = false := by simpa using he
    rw [if_neg (by simpa using he)]
    obtain ⟨b4, b5, b6⟩ := b2 he
    clear b2 b3 he
    by_cases h0 : most < 0
    · rw [if_pos (.inl h0)]
      clear hL
      go_enter Try.func22, Try.ntmps22
      go_wp2_with (go_at_call 20; refine HU.out.mono ?_; rintro e w1 ⟨rfl, rfl⟩)
      go_ret3
      exact got_none ⟨rfl, rfl⟩
    · have h0' : decide (most < 0) = false := by simpa using h0
      have e1 : IntKind.u64.wrap most = most := by rw [IntKind.wrap_u64]; omega
      by_cases h1 : most < v
      · rw [if_pos (.inr h1)]
        clear hL
        go_enter Try.func22, Try.ntmps22
        go_wp2_with (go_at_call 20; refine HU.out.mono ?_; rintro e w1 ⟨rfl, rfl⟩)
        go_ret3
        exact got_none ⟨rfl, rfl⟩
      · rw [if_neg (by omega)]
        have h1' : decide (most < v) = false := by simpa using h1
        have e2 : IntKind.u64.wrap ((n : Int) - i) = n - i := by rw [IntKind.wrap_u64]; omega
        by_cases h2 : (n : Int) - i < v
        · rw [if_pos h2]
          clear hL
          go_enter Try.func22, Try.ntmps22
          go_wp2_with (go_at_call 20; refine HU.out.mono ?_; rintro e w1 ⟨rfl, rfl⟩)
          go_ret3
          exact got_none ⟨rfl, rfl⟩
        · rw [if_neg h2]
          have h2' : decide ((n : Int) - i < v) = false := by simpa using h2
          obtain ⟨j, rfl⟩ := Int.eq_ofNat_of_zero_le (a := i) (by omega)
          obtain ⟨m, rfl⟩ := Int.eq_ofNat_of_zero_le b0
          have e3 : wrap64 (m : Int) = m := by unfold wrap64; omega
          obtain ⟨A', hsl, hb⟩ := slice_mid HI.out.bys n j m c HI.out.len (by omega) HI.out.cap
          have HM : Hid (((L.drop j).take m).length = m) := Lib.hid (by simp; omega)
          have HS := Lib.hid hb
          have HV := Lib.hid he'
          simp only [Int.toNat_natCast]
          generalize (L.drop j).take m = X at HM HS ⊢
          have HX : Hid (X.length ≤ 281474976710656) := Lib.hid (by have := HM.out; omega)
          clear hL hb
          go_enter Try.func22, Try.ntmps22
          go_wp2_with (first
            | (go_at_call 20; refine HU.out.mono ?_; rintro e w1 ⟨rfl, rfl⟩)
            | (go_at_call 25; refine (copy_any _ X _ _ _ HM.out HS.out HX.out).mono ?_; rintro e w2 ⟨g2, c2, rfl, m2, b2⟩; have M2 := Lib.hid m2; have B2 := Lib.hid b2; clear m2 b2))
          go_ret3
          refine ⟨some ⟨g2, 0, none⟩, c2, ?_, .inr ⟨g2, rfl, M2.out⟩, B2.out⟩
          rfl
  · have he' : (e != 0) = true := by simpa using he
    rw [if_pos (by simpa using he)]
    clear he b2 b3 hL
    go_enter Try.func22, Try.ntmps22
    go_wp2_with (go_at_call 20; refine HU.out.mono ?_; rintro e w1 ⟨rfl, rfl⟩)
    go_ret3
    exact got_none ⟨rfl, rfl⟩

end Go.Proofs.Ytbgolnaljmeneaa
