/-
  Walks: a number with sign, and bytes, that are read.
-/
import Derived.Test.YtbgolnaljmeneaaWkG
namespace Go.Proofs.Ytbgolnaljmeneaa
open Go.RowKit

/-- A slice that can be read: bytes, as they lie, its length and its room. -/
structure In (w : World) (A : Option Addr) (L : List Int) (n c : Nat) : Prop where
  len : L.length = n
  cap : n ≤ c
  top : (c : Int) ≤ 9223372036854775807
  bys : Bys w A L
  byt : Byt L

theorem uint_any (A : Option Addr) (L : List Int) (n c : Nat) (at_ : Int) (w : World) (h : In w A L n c) :
    Calls Try.prog 17 #[.slice A n c, .int .i64 at_] w fun e w' => e = Ans (uintP L at_) ∧ w = w' := by
  by_cases g : at_ < 0 ∨ (n : Int) < at_
  · exact uint_out A L n c at_ w h.len (by have := h.cap; have := h.top; omega) g
  · obtain ⟨a, rfl⟩ := Int.eq_ofNat_of_zero_le (a := at_) (by omega)
    obtain ⟨k, rfl⟩ : ∃ k, n = a + k := ⟨n - a, by omega⟩
    exact uint_in A L a k c w h.len h.cap h.top h.bys h.byt
theorem uintR_any (A : Option Addr) (L : List Int) (n c : Nat) (at_ : Int) (w : World) (h : In w A L n c) :
    Calls Try.prog 20 #[.slice A n c, .int .i64 at_] w fun e w' => e = Ans (uintP L at_) ∧ w = w' := by
  by_cases g : at_ < 0 ∨ (n : Int) < at_
  · exact uintR_out A L n c at_ w h.len (by have := h.cap; have := h.top; omega) g
  · obtain ⟨a, rfl⟩ := Int.eq_ofNat_of_zero_le (a := at_) (by omega)
    obtain ⟨k, rfl⟩ : ∃ k, n = a + k := ⟨n - a, by omega⟩
    exact uintR_in A L a k c w h.len h.cap h.top h.bys h.byt

def AnsI (p : Int × Int × Int) : Ending := .returned (.tuple #[.int .i64 p.1, .int .i64 p.2.1, .int .i64 p.2.2])

set_option maxRecDepth 100000 in
theorem int_any (A : Option Addr) (L : List Int) (n c : Nat) (at_ : Int) (w : World) (h : In w A L n c) :
    Calls Try.prog 18 #[.slice A n c, .int .i64 at_] w fun e w' => e = AnsI (intP L at_) ∧ w = w' := by
  have HU := Lib.hid (uint_any A L n c at_ w h)
  have b := uintP_bd L at_ h.byt
  unfold intP
  have HF := Lib.hid (fun w => unfolded_any (uintP L at_).1 w b.1 b.2.1)
  clear b h
  unfold Ans at HU
  unfold AnsI
  generalize uintP L at_ = p at HU HF ⊢
  obtain ⟨v, i, e⟩ := p
  go_enter Try.func18, Try.ntmps18
  go_wp2_with (first
    | (go_at_call 17; refine HU.out.mono ?_; rintro e w1 ⟨rfl, rfl⟩)
    | (go_at_call 27; refine (HF.out _).mono ?_; rintro e w1 ⟨rfl, rfl⟩))
  go_ret3
  exact ⟨rfl, rfl⟩

set_option maxRecDepth 100000 in
theorem intR_any (A : Option Addr) (L : List Int) (n c : Nat) (at_ : Int) (w : World) (h : In w A L n c) :
    Calls Try.prog 21 #[.slice A n c, .int .i64 at_] w fun e w' => e = AnsI (intP L at_) ∧ w = w' := by
  have HU := Lib.hid (uintR_any A L n c at_ w h)
  have b := uintP_bd L at_ h.byt
  unfold intP
  clear h
  unfold Ans at HU
  unfold AnsI
  generalize uintP L at_ = p at HU b ⊢
  obtain ⟨v, i, e⟩ := p
  simp only at HU b ⊢
  obtain ⟨b0, b1, -, b3, -⟩ := b
  by_cases he : e = 0
  · have he' : (e != 0) = false := by simpa using he
    have HE := Lib.hid he
    clear b3 he
    have e1 : wrap64 (v / 2) = v / 2 := by unfold wrap64; omega
    by_cases hv : v % 2 = 0
    · have hz : unz v = v / 2 := by unfold unz; rw [if_pos hv]
      have hv' : (v % 2 == 0) = true := by simpa using hv
      rw [hz]
      clear hz hv
      go_enter Try.func21, Try.ntmps21
      go_wp2_with (go_at_call 20; refine HU.out.mono ?_; rintro e w1 ⟨rfl, rfl⟩)
      go_ret3
      exact ⟨by rw [HE.out]; rfl, rfl⟩
    · have hz : unz v = -(v / 2) - 1 := by unfold unz; rw [if_neg hv]
      have hv' : (v % 2 == 0) = false := by simpa using hv
      rw [hz]
      clear hz hv
      go_enter Try.func21, Try.ntmps21
      go_wp2_with (go_at_call 20; refine HU.out.mono ?_; rintro e w1 ⟨rfl, rfl⟩)
      go_ret3
      exact ⟨by rw [HE.out]; rfl, rfl⟩
  · have he' : (e != 0) = true := by simpa using he
    obtain ⟨rfl, rfl⟩ := b3 he
    have hz : unz 0 = 0 := by decide
    rw [hz]
    clear he hz
    go_enter Try.func21, Try.ntmps21
    go_wp2_with (go_at_call 20; refine HU.out.mono ?_; rintro e w1 ⟨rfl, rfl⟩)
    go_ret3
    exact ⟨rfl, rfl⟩

end Go.Proofs.Ytbgolnaljmeneaa
