/-
  Walks: the document's own reading of a text.
-/
import Derived.Test.YtefkabkncmflpaaDoorReads
import Derived.Test.YtefkabkncmflpaaDoorWkD
namespace Go.Proofs.YtefkabkncmflpaaDoor
open Go.RowKit

/-- A text, its minus sign taken off. -/
def Off (s d : ByteArray) (neg : Bool) : Prop :=
  if neg then ∃ h : 0 < s.size, (s[0].toNat : Int) = 45 ∧ s.extract 1 s.size = d else s = d ∧ ∀ h : 0 < d.size, (d[0].toNat : Int) ≠ 45

/-- What the document looks at ahead of the digits. -/
def Early (d : ByteArray) (neg : Bool) : Prop :=
  d.size < 4 ∨ 20 < d.size ∨ (∃ h : 4 ≤ d.size, (d[d.size - 3].toNat : Int) ≠ 46) ∨ (∃ h : 4 < d.size, (d[0].toNat : Int) = 48) ∨ (neg = true ∧ d = ⟨#[48, 46, 48, 48]⟩)

set_option maxRecDepth 100000 in
set_option maxHeartbeats 4000000 in
theorem refRead_early_plus (s : ByteArray) (w : World) (hc : ∀ h : 0 < s.size, (s[0].toNat : Int) ≠ 45) (hs : s.size ≤ 9223372036854775807) (hE : Early s false) :
    Calls Tryd.prog 26 #[.string s] w fun e w' => e = .returned (.tuple #[.int .i64 0, .int .i64 7]) ∧ Below w.heap.size w w' := by
  have hsz : (s.size : Int) ≤ 9223372036854775807 := by omega
  by_cases h0 : s.size = 0
  · have h0i : (s.size : Int) = 0 := by omega
    clear hE hc
    go_enter Tryd.func26, Tryd.ntmps26
    go_wp2_with fail
    all_goals go_ret2
    all_goals exact ⟨rfl, Below.refl _ _⟩
  · have hp : 0 < s.size := by omega
    have hp1 := hc hp
    have hpi : (0 : Int) < s.size := by omega
    clear hc h0
    rcases hE with h | h | ⟨h, hx⟩ | ⟨h, hx⟩ | ⟨h, hz⟩
    · have hi : (s.size : Int) < 4 := by omega
      go_enter Tryd.func26, Tryd.ntmps26
      go_wp2_with fail
      all_goals go_ret2
      all_goals exact ⟨rfl, Below.refl _ _⟩
    · have hi : (20 : Int) < s.size := by omega
      go_enter Tryd.func26, Tryd.ntmps26
      go_wp2_with fail
      all_goals go_ret2
      all_goals exact ⟨rfl, Below.refl _ _⟩
    · have hk : (s.size : Int) - 3 = ((s.size - 3 : Nat) : Int) := by omega
      obtain ⟨k, hkk⟩ : ∃ k, s.size - 3 = k := ⟨_, rfl⟩
      obtain ⟨hlt, hx⟩ : ∃ h : k < s.size, (s[k].toNat : Int) ≠ 46 := ⟨by omega, by subst hkk; exact hx⟩
      rw [hkk] at hk
      have k1 : (1 : Int) ≤ k := by omega
      have hli : (k : Int) < s.size := by omega
      go_enter Tryd.func26, Tryd.ntmps26
      go_wp2_with fail
      all_goals go_ret2
      all_goals exact ⟨rfl, Below.refl _ _⟩
    · have hk : (s.size : Int) - 3 = ((s.size - 3 : Nat) : Int) := by omega
      obtain ⟨k, hkk⟩ : ∃ k, s.size - 3 = k := ⟨_, rfl⟩
      have hlt : k < s.size := by omega
      rw [hkk] at hk
      have k1 : (1 : Int) < k := by omega
      have hli : (k : Int) < s.size := by omega
      have hp : 0 < s.size := by omega
      have hpd : (0 : Int) < s.size := by omega
      go_enter Tryd.func26, Tryd.ntmps26
      go_wp2_with fail
      all_goals go_ret2
      all_goals exact ⟨rfl, Below.refl _ _⟩
    · cases h

set_option maxRecDepth 100000 in
set_option maxHeartbeats 4000000 in
theorem refRead_early_minus (s d : ByteArray) (w : World) (h0 : 0 < s.size) (hc : (s[0].toNat : Int) = 45) (hd : s.extract 1 s.size = d) (hs : s.size ≤ 9223372036854775807) (hE : Early d true) :
    Calls Tryd.prog 26 #[.string s] w fun e w' => e = .returned (.tuple #[.int .i64 0, .int .i64 7]) ∧ Below w.heap.size w w' := by
  have h0i : (0 : Int) < s.size := by omega
  have hdz : d.size = s.size - 1 := by rw [← hd]; simp
  have hsz : (d.size : Int) ≤ 9223372036854775807 := by omega
  clear hdz
  rcases hE with h | h | ⟨h, hx⟩ | ⟨h, hx⟩ | ⟨h, hz⟩
  · have hi : (d.size : Int) < 4 := by omega
    go_enter Tryd.func26, Tryd.ntmps26
    go_upto_region 5 with fail
    clear hd hc h0i h0 hs
    go_wp2_with fail
    all_goals go_ret2
    all_goals exact ⟨rfl, Below.refl _ _⟩
  · have hi : (20 : Int) < d.size := by omega
    go_enter Tryd.func26, Tryd.ntmps26
    go_upto_region 5 with fail
    clear hd hc h0i h0 hs
    go_wp2_with fail
    all_goals go_ret2
    all_goals exact ⟨rfl, Below.refl _ _⟩
  · have hk : (d.size : Int) - 3 = ((d.size - 3 : Nat) : Int) := by omega
    obtain ⟨k, hkk⟩ : ∃ k, d.size - 3 = k := ⟨_, rfl⟩
    obtain ⟨hlt, hx⟩ : ∃ h : k < d.size, (d[k].toNat : Int) ≠ 46 := ⟨by omega, by subst hkk; exact hx⟩
    rw [hkk] at hk
    have k1 : (1 : Int) ≤ k := by omega
    have hli : (k : Int) < d.size := by omega
    go_enter Tryd.func26, Tryd.ntmps26
    go_upto_region 5 with fail
    clear hd hc h0i h0 hs
    go_wp2_with fail
    all_goals go_ret2
    all_goals exact ⟨rfl, Below.refl _ _⟩
  · have hk : (d.size : Int) - 3 = ((d.size - 3 : Nat) : Int) := by omega
    obtain ⟨k, hkk⟩ : ∃ k, d.size - 3 = k := ⟨_, rfl⟩
    have hlt : k < d.size := by omega
    rw [hkk] at hk
    have k1 : (1 : Int) < k := by omega
    have hli : (k : Int) < d.size := by omega
    have hp : 0 < d.size := by omega
    have hpd : (0 : Int) < d.size := by omega
    go_enter Tryd.func26, Tryd.ntmps26
    go_upto_region 5 with fail
    clear hd hc h0i h0 hs
    go_wp2_with fail
    all_goals go_ret2
    all_goals exact ⟨rfl, Below.refl _ _⟩
  · subst hz
    go_enter Tryd.func26, Tryd.ntmps26
    go_wp2_with fail
    all_goals go_ret2
    all_goals exact ⟨rfl, Below.refl _ _⟩

theorem refRead_early (s d : ByteArray) (neg : Bool) (w : World) (hO : Off s d neg) (hs : s.size ≤ 9223372036854775807) (hE : Early d neg) :
    Calls Tryd.prog 26 #[.string s] w fun e w' => e = .returned (.tuple #[.int .i64 0, .int .i64 7]) ∧ Below w.heap.size w w' := by
  cases neg
  · obtain ⟨rfl, hc⟩ : s = d ∧ ∀ h : 0 < d.size, (d[0].toNat : Int) ≠ 45 := hO
    exact refRead_early_plus s w hc hs hE
  · obtain ⟨h, hc, hd⟩ : ∃ h : 0 < s.size, (s[0].toNat : Int) = 45 ∧ s.extract 1 s.size = d := hO
    exact refRead_early_minus s d w h hc hd hs hE

end Go.Proofs.YtefkabkncmflpaaDoor
